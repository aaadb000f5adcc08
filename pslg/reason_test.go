package pslg

import (
	"errors"
	"strings"
	"testing"

	"gusset/api"
)

// TestReasons holds that within a text is refused at its first wrong token, and for what is wrong there.
func TestReasons(t *testing.T) {
	for _, c := range []struct {
		text  string
		token int
		why   error
	}{
		{"", 0, errEnded}, {"psl", 1, errWord}, {"pslg", 1, errEnded}, {"pslg w 0", 2, errWord}, {"pslg v", 2, errEnded},
		{"pslg v 41", 3, errCount}, {"pslg v 01", 3, errCount}, {"pslg v 1 0", 4, errEnded}, {"pslg v 1 0 z z", 5, errNumber},
		{"pslg v 1 0 0 s 1 0 1 d", 9, errCount}, {"pslg v 1 0 0 s 1 0 0 x", 10, errKind}, {"pslg v 1 0 0 s 1 0 0 d h 11", 12, errCount},
		{"pslg v 0 s 0 h 0 f 0 0 0 0 0 g", 14, errNumber}, {"pslg v 0 s 0 h 0 f 0 0 0 0 0 0 0", 15, errWord},
		{"pslg v 0 s 0 h 0 f 0 0 0 0 0 0 g 0 0 0 0 0 0 end end", 22, errMore}, {strings.Repeat(" ", api.MaxText+1), 0, errLong},
	} {
		_, err := read(c.text)
		var refused *refusal
		if !errors.Is(err, c.why) || !errors.As(err, &refused) || refused.token != c.token {
			t.Errorf("%q: %v", c.text[:min(len(c.text), 60)], err)
		}
		if err != nil && !strings.HasSuffix(err.Error(), c.why.Error()) {
			t.Errorf("%q is told as %q", c.why, err)
		}
	}
	if _, err := read("pslg v 0 s 0 h 0 f 0 0 0 0 0 0 g 0 0 0 0 0 0 end"); err != nil {
		t.Error(err)
	}
}
