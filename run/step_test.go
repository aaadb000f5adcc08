package run

import (
	"errors"
	"testing"

	"gusset/api"
)

// TestSteps holds that steps are done one behind the other, that the first one that gives up is told, wrapped, with its name and number, and that no other one is done behind it.
func TestSteps(t *testing.T) {
	done := ""
	does := func(name string, e api.Errno) step {
		return step{name, func() api.Errno { done += name; return e }}
	}
	err := inTurn(does("a", api.OK), does("b", api.ErrFree), does("c", api.ErrArg))
	var h *halt
	if done != "ab" || !errors.As(err, &h) || h.step != "b" || !errors.Is(err, fault{api.ErrFree}) || numberOf(err) != api.ErrFree {
		t.Errorf("done %q: %v", done, err)
	}
	if err.Error() != "b: error 13" {
		t.Errorf("told %q", err.Error())
	}
	if numberOf(&halt{"outer", err}) != api.ErrFree {
		t.Error("wrapped twice, its number is lost")
	}
	done = ""
	if err := inTurn(does("a", api.OK), does("b", api.OK)); err != nil || done != "ab" || numberOf(err) != api.OK {
		t.Errorf("done %q: %v", done, err)
	}
	if err := inTurn(); err != nil {
		t.Errorf("no step: %v", err)
	}
}
