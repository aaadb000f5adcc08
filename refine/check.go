package refine

import (
	"gusset/api"
	"gusset/rat"
	"gusset/span"
)

// maxBytes is how many bytes each Mag and Den may have here; maxSizes is how many sizes there may be.
const (
	maxBytes = 50
	maxSizes = 100
)

// check tells what is wrong with points that may be asked, or with sizes.
func check(points []api.Point, sizes []api.Size) api.Errno {
	for _, p := range points {
		if isLong(p) {
			return api.ErrLimit
		}
	}
	if len(sizes) > maxSizes {
		return api.ErrLimit
	}
	for _, s := range sizes {
		if !mayBe(s) {
			return api.ErrArg
		}
	}
	return api.OK
}

// mayBe tells whether a size may be so.
func mayBe(s api.Size) bool {
	if isLong(s.Centre) || tooLong(s.Within2, s.Most2) || span.Check(s.Centre) != api.OK {
		return false
	}
	within, e := rat.Sign(s.Within2)
	most, f := rat.Sign(s.Most2)
	return e == api.OK && f == api.OK && within >= 0 && most > 0
}

// isLong tells whether a point has too long a number.
func isLong(p api.Point) bool { return tooLong(p.X, p.Y) }

// tooLong tells whether one of the numbers has too many bytes.
func tooLong(l ...api.Rat) bool {
	for _, a := range l {
		if len(a.Num.Mag) > maxBytes || len(a.Den) > maxBytes {
			return true
		}
	}
	return false
}
