package adapt

import (
	"math/bits"
	"strings"

	"gusset/api"
	"gusset/cons"
	"gusset/rat"
	"gusset/vec"
)

// maxBytes is how many bytes each Mag and Den of a point, and of the floor, may have; maxPower is how far from 0 the k of a scale 4^k may be.
const (
	maxBytes = 50
	maxPower = 190
)

// one is the Nat 1.
const one api.Nat = "\x01"

// sizesOf is the Size about a triangle, or none, if its circle is not above the floor.
func sizesOf(m api.Mesh, t api.Tri, floor2 api.Rat) ([]api.Size, api.Errno) {
	far2 := radius2(m.Points[t[0]], m.Points[t[1]], m.Points[t[2]])
	if order, _ := rat.Cmp(far2, floor2); order <= 0 {
		return nil, api.OK
	}
	k := scale(far2)
	if k < -maxPower || k > maxPower {
		return nil, api.ErrLimit
	}
	most2 := power(k - 2)
	if order, _ := rat.Cmp(floor2, most2); order > 0 {
		most2 = floor2
	}
	return []api.Size{{Centre: m.Points[t[0]], Within2: power(k + 1), Most2: most2}}, api.OK
}

// radius2 is the radius of the circle through three points, squared. Its centre may be too long to be asked about, but is not too long to be reckoned with.
func radius2(a api.Point, b api.Point, c api.Point) api.Rat {
	centre, _ := cons.Centre(a, b, c)
	way, _ := vec.Minus(centre, a)
	out, _ := vec.Norm2(way)
	return out
}

// scale is which power of 4 is the least that is not less than a number above 0. The lengths tell one that is less, but not by much.
func scale(a api.Rat) int {
	k := (length(a.Num.Mag) - length(a.Den) - 1) >> 1
climb:
	if order, _ := rat.Cmp(power(k), a); order < 0 {
		k++
		goto climb
	}
	return k
}

// length is how many bits a Nat has that is not 0.
func length(n api.Nat) int { return 8*(len(n)-1) + bits.Len8(n[0]) }

// power is 4^k.
func power(k int) api.Rat {
	if k < 0 {
		return api.Rat{Num: api.Int{Mag: one}, Den: power(-k).Num.Mag}
	}
	noughts := strings.Repeat("\x00", k/4)
	return api.Rat{Num: api.Int{Mag: api.Nat([]byte{1 << (2 * (k % 4))}) + api.Nat(noughts)}, Den: one}
}
