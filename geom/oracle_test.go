package geom_test

import (
	"math/big"
	"math/rand/v2"

	"gusset/api"
)

// What the answers are held against: the library's numbers, and other ways to tell how points lie than the program's.

// place is a point of the library's numbers.
type place struct{ x, y *big.Rat }

// ratOf is a number of the library as a Rat.
func ratOf(x *big.Rat) api.Rat {
	num := api.Int{Neg: x.Sign() < 0, Mag: api.Nat(x.Num().Bytes())}
	return api.Rat{Num: num, Den: api.Nat(x.Denom().Bytes())}
}

func (p place) String() string { return "(" + p.x.RatString() + ", " + p.y.RatString() + ")" }

func (p place) point() api.Point { return api.Point{X: ratOf(p.x), Y: ratOf(p.y)} }

func times(x *big.Rat, y *big.Rat) *big.Rat { return new(big.Rat).Mul(x, y) }
func plus(x *big.Rat, y *big.Rat) *big.Rat  { return new(big.Rat).Add(x, y) }
func minus(x *big.Rat, y *big.Rat) *big.Rat { return new(big.Rat).Sub(x, y) }
func over(x *big.Rat, y *big.Rat) *big.Rat  { return new(big.Rat).Quo(x, y) }

func small(n int, d int) *big.Rat { return big.NewRat(int64(n), int64(d)) }

// far is how far two places are apart, squared.
func far(p place, q place) *big.Rat {
	x, y := minus(p.x, q.x), minus(p.y, q.y)
	return plus(times(x, x), times(y, y))
}

// between is a, gone a part of the way to b.
func between(a place, b place, part *big.Rat) place {
	return place{plus(a.x, times(part, minus(b.x, a.x))), plus(a.y, times(part, minus(b.y, a.y)))}
}

// area is twice that of a triangle, by its corners one behind the other.
func area(a place, b place, c place) *big.Rat {
	sum := new(big.Rat)
	for _, pair := range [][2]place{{a, b}, {b, c}, {c, a}} {
		sum = plus(sum, minus(times(pair[0].x, pair[1].y), times(pair[1].x, pair[0].y)))
	}
	return sum
}

// line is that of two places: p x + q y = r.
func line(a place, b place) (*big.Rat, *big.Rat, *big.Rat) {
	p, q := minus(a.y, b.y), minus(b.x, a.x)
	return p, q, plus(times(p, a.x), times(q, a.y))
}

// solved is the place that two lines have, if it is one alone.
func solved(p1, q1, r1, p2, q2, r2 *big.Rat) (place, bool) {
	under := minus(times(p1, q2), times(p2, q1))
	if under.Sign() == 0 {
		return place{}, false
	}
	return place{over(minus(times(r1, q2), times(r2, q1)), under), over(minus(times(p1, r2), times(p2, r1)), under)}, true
}

// wantCrossing is the place that the lines of a, b and of c, d have.
func wantCrossing(a, b, c, d place) (place, bool) {
	p1, q1, r1 := line(a, b)
	p2, q2, r2 := line(c, d)
	return solved(p1, q1, r1, p2, q2, r2)
}

// bisector is the line of all places that are as far from a as from b.
func bisector(a place, b place) (*big.Rat, *big.Rat, *big.Rat) {
	m := between(a, b, small(1, 2))
	p, q := minus(b.x, a.x), minus(b.y, a.y)
	return p, q, plus(times(p, m.x), times(q, m.y))
}

// wantCircle goes by the circle's centre.
func wantCircle(a, b, c, d place) (int, bool) {
	p1, q1, r1 := bisector(a, b)
	p2, q2, r2 := bisector(b, c)
	centre, ok := solved(p1, q1, r1, p2, q2, r2)
	if !ok {
		return 0, false
	}
	return far(centre, a).Cmp(far(centre, d)), true
}

// wantDisc goes by the segment's middle.
func wantDisc(a, b, p place) int {
	m := between(a, b, small(1, 2))
	return far(m, a).Cmp(far(m, p))
}

// wantOn asks whether p is in the line, and no farther than the ends are in X and Y.
func wantOn(a, b, p place) bool {
	inside := func(x, y, z *big.Rat) bool { return x.Cmp(z)*y.Cmp(z) <= 0 }
	return area(a, b, p).Sign() == 0 && inside(a.x, b.x, p.x) && inside(a.y, b.y, p.y)
}

// wantMeet goes by the lines' crossing, if there is one.
func wantMeet(a, b, c, d place) int {
	cross, ok := wantCrossing(a, b, c, d)
	switch {
	case !ok && (wantOn(a, b, c) || wantOn(a, b, d) || wantOn(c, d, a) || wantOn(c, d, b)):
		return 2
	case !ok || !wantOn(a, b, cross) || !wantOn(c, d, cross):
		return 0
	}
	for _, p := range []place{a, b, c, d} {
		if far(p, cross).Sign() == 0 {
			return 2
		}
	}
	return 1
}

// wantWithin goes by which parts of the triangle's area those with p have.
func wantWithin(a, b, c, p place) (int, bool) {
	all := area(a, b, c)
	if all.Sign() == 0 {
		return 0, false
	}
	out := 1
	for _, part := range []*big.Rat{area(a, b, p), area(b, c, p), area(c, a, p)} {
		out = min(out, over(part, all).Sign())
	}
	return out, true
}

func random() *rand.Rand { return rand.New(rand.NewPCG(31, 32)) }

// fraction is a number of n bytes above the stroke and below it (less, if both can be cut), of either sign.
func fraction(r *rand.Rand, n int) *big.Rat {
	parts := [2][]byte{make([]byte, n), make([]byte, n)}
	for _, part := range parts {
		for i := range part {
			part[i] = byte(r.Uint32())
		}
		part[0] |= 0x80
	}
	x := new(big.Rat).SetFrac(new(big.Int).SetBytes(parts[0]), new(big.Int).SetBytes(parts[1]))
	if r.IntN(2) == 0 {
		x.Neg(x)
	}
	return x
}

// anyPlace is one of two such numbers.
func anyPlace(r *rand.Rand, n int) place { return place{fraction(r, n), fraction(r, n)} }

// onCircle is a place on a circle: of its centre, a place on it, and a number for each place but one.
func onCircle(centre place, first place, k *big.Rat) place {
	square := times(k, k)
	under := plus(small(1, 1), square)
	cos, sin := over(minus(small(1, 1), square), under), over(plus(k, k), under)
	x, y := minus(first.x, centre.x), minus(first.y, centre.y)
	return place{
		plus(centre.x, minus(times(cos, x), times(sin, y))),
		plus(centre.y, plus(times(sin, x), times(cos, y))),
	}
}
