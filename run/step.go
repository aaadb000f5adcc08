package run

import (
	"errors"
	"strconv"

	"gusset/api"
)

// step is something that is to be done, by its name; it tells an error's number.
type step struct {
	name string
	do   func() api.Errno
}

// fault is an error's number as an error.
type fault struct{ number api.Errno }

func (f fault) Error() string { return "error " + strconv.Itoa(int(f.number)) }

// halt is which step gave up, and why.
type halt struct {
	step string
	why  error
}

func (h *halt) Error() string { return h.step + ": " + h.why.Error() }

func (h *halt) Unwrap() error { return h.why }

// inTurn does one step behind the other, until one gives up.
func inTurn(steps ...step) error {
	for _, s := range steps {
		if e := s.do(); e != api.OK {
			return &halt{s.name, fault{e}}
		}
	}
	return nil
}

// numberOf is the number of what made a step give up.
func numberOf(err error) api.Errno {
	var f fault
	if errors.As(err, &f) {
		return f.number
	}
	return api.OK
}
