package plan_test

import (
	"math/big"
	"math/rand/v2"

	"gusset/api"
)

// What the answers are held against: the library's numbers, and other ways to measure than the program's.

// place is a point of the library's numbers.
type place struct{ x, y *big.Rat }

// ratOf is a number of the library as a Rat.
func ratOf(x *big.Rat) api.Rat {
	num := api.Int{Neg: x.Sign() < 0, Mag: api.Nat(x.Num().Bytes())}
	return api.Rat{Num: num, Den: api.Nat(x.Denom().Bytes())}
}

func (p place) String() string { return "(" + p.x.RatString() + ", " + p.y.RatString() + ")" }

func (p place) point() api.Point { return api.Point{X: ratOf(p.x), Y: ratOf(p.y)} }

// points are those of places.
func points(l []place) []api.Point {
	out := []api.Point(nil)
	for _, p := range l {
		out = append(out, p.point())
	}
	return out
}

func times(x *big.Rat, y *big.Rat) *big.Rat { return new(big.Rat).Mul(x, y) }
func plus(x *big.Rat, y *big.Rat) *big.Rat  { return new(big.Rat).Add(x, y) }
func minus(x *big.Rat, y *big.Rat) *big.Rat { return new(big.Rat).Sub(x, y) }
func over(x *big.Rat, y *big.Rat) *big.Rat  { return new(big.Rat).Quo(x, y) }

func small(n int, d int) *big.Rat { return big.NewRat(int64(n), int64(d)) }

// lesser is the less of two numbers, the first of which may be missing.
func lesser(x *big.Rat, y *big.Rat) *big.Rat {
	if x == nil || y.Cmp(x) < 0 {
		return y
	}
	return x
}

// far is how far two places are apart, squared.
func far(p place, q place) *big.Rat {
	x, y := minus(p.x, q.x), minus(p.y, q.y)
	return plus(times(x, x), times(y, y))
}

// between is a, gone a part of the way to b.
func between(a place, b place, part *big.Rat) place {
	return place{plus(a.x, times(part, minus(b.x, a.x))), plus(a.y, times(part, minus(b.y, a.y)))}
}

// isPart tells whether a number is from 0 to 1.
func isPart(x *big.Rat) bool { return x.Sign() >= 0 && x.Cmp(small(1, 1)) <= 0 }

// wantNear2 goes by the nearest place of the segment: by which part of the way from a to b.
func wantNear2(a place, b place, p place) *big.Rat {
	whole := far(a, b)
	if whole.Sign() == 0 {
		return far(a, p)
	}
	part := over(minus(plus(far(a, p), whole), far(b, p)), plus(whole, whole))
	switch {
	case part.Sign() < 0:
		part = small(0, 1)
	case !isPart(part):
		part = small(1, 1)
	}
	return far(between(a, b, part), p)
}

// wantApart2 goes by the parts of both ways at which their lines cross, if they do; else by the ends.
func wantApart2(a, b, c, d place) *big.Rat {
	firstX, firstY, secondX, secondY := minus(b.x, a.x), minus(b.y, a.y), minus(d.x, c.x), minus(d.y, c.y)
	x, y := minus(c.x, a.x), minus(c.y, a.y)
	if under := minus(times(firstX, secondY), times(firstY, secondX)); under.Sign() != 0 {
		part := over(minus(times(x, secondY), times(y, secondX)), under)
		other := over(minus(times(x, firstY), times(y, firstX)), under)
		if isPart(part) && isPart(other) {
			return new(big.Rat)
		}
	}
	least := lesser(wantNear2(a, b, c), wantNear2(a, b, d))
	return lesser(least, lesser(wantNear2(c, d, a), wantNear2(c, d, b)))
}

// wantLeast2 asks about all that the chapter names.
func wantLeast2(l []place, segs []api.Seg) *big.Rat {
	least := (*big.Rat)(nil)
	for i, p := range l {
		for j, q := range l {
			if i != j {
				least = lesser(least, far(p, q))
			}
		}
		for _, s := range segs {
			if i != s.A && i != s.B {
				least = lesser(least, wantNear2(l[s.A], l[s.B], p))
			}
		}
	}
	for _, s := range segs {
		for _, t := range segs {
			if s.A != t.A && s.A != t.B && s.B != t.A && s.B != t.B {
				least = lesser(least, wantApart2(l[s.A], l[s.B], l[t.A], l[t.B]))
			}
		}
	}
	return least
}

func random() *rand.Rand { return rand.New(rand.NewPCG(91, 92)) }

// fraction is a number of n bytes above the stroke and below it (less, if both can be cut), of either sign.
func fraction(r *rand.Rand, n int) *big.Rat {
	parts := [2][]byte{make([]byte, n), make([]byte, n)}
	for _, part := range parts {
		for i := range part {
			part[i] = byte(r.Uint32())
		}
		part[0] |= 0x80
	}
	x := new(big.Rat).SetFrac(new(big.Int).SetBytes(parts[0]), new(big.Int).SetBytes(parts[1]))
	if r.IntN(2) == 0 {
		x.Neg(x)
	}
	return x
}

// anyPlace is one of two such numbers.
func anyPlace(r *rand.Rand, n int) place { return place{fraction(r, n), fraction(r, n)} }

// anyPlaces are some of these.
func anyPlaces(r *rand.Rand, count int, n int) []place {
	out := []place(nil)
	for range count {
		out = append(out, anyPlace(r, n))
	}
	return out
}

// anySegs are some between count points: both ends may be one.
func anySegs(r *rand.Rand, n int, count int) []api.Seg {
	out := []api.Seg(nil)
	for range n {
		out = append(out, api.Seg{A: r.IntN(count), B: r.IntN(count), Fixed: r.IntN(2) == 0})
	}
	return out
}
