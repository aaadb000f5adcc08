package cons_test

import (
	"math/big"
	"math/rand/v2"

	"gusset/api"
)

// What the answers are held against: the library's numbers, and other ways to construct and to measure than the program's.

// place is a point of the library's numbers.
type place struct{ x, y *big.Rat }

// ratOf is a number of the library as a Rat.
func ratOf(x *big.Rat) api.Rat {
	num := api.Int{Neg: x.Sign() < 0, Mag: api.Nat(x.Num().Bytes())}
	return api.Rat{Num: num, Den: api.Nat(x.Denom().Bytes())}
}

func (p place) String() string { return "(" + p.x.RatString() + ", " + p.y.RatString() + ")" }

func (p place) point() api.Point { return api.Point{X: ratOf(p.x), Y: ratOf(p.y)} }

func times(x *big.Rat, y *big.Rat) *big.Rat { return new(big.Rat).Mul(x, y) }
func plus(x *big.Rat, y *big.Rat) *big.Rat  { return new(big.Rat).Add(x, y) }
func minus(x *big.Rat, y *big.Rat) *big.Rat { return new(big.Rat).Sub(x, y) }
func over(x *big.Rat, y *big.Rat) *big.Rat  { return new(big.Rat).Quo(x, y) }

func small(n int, d int) *big.Rat { return big.NewRat(int64(n), int64(d)) }

// far is how far two places are apart, squared.
func far(p place, q place) *big.Rat {
	x, y := minus(p.x, q.x), minus(p.y, q.y)
	return plus(times(x, x), times(y, y))
}

// between is a, gone a part of the way to b.
func between(a place, b place, part *big.Rat) place {
	return place{plus(a.x, times(part, minus(b.x, a.x))), plus(a.y, times(part, minus(b.y, a.y)))}
}

// area is twice that of a triangle, by its corners one behind the other.
func area(a place, b place, c place) *big.Rat {
	sum := new(big.Rat)
	for _, pair := range [][2]place{{a, b}, {b, c}, {c, a}} {
		sum = plus(sum, minus(times(pair[0].x, pair[1].y), times(pair[1].x, pair[0].y)))
	}
	return sum
}

// bisector is the line of all places that are as far from a as from b: p x + q y = r.
func bisector(a place, b place) (*big.Rat, *big.Rat, *big.Rat) {
	m := between(a, b, small(1, 2))
	p, q := minus(b.x, a.x), minus(b.y, a.y)
	return p, q, plus(times(p, m.x), times(q, m.y))
}

// centre is where the bisectors of b and c, and of c and a, cross.
func centre(a place, b place, c place) (place, bool) {
	p1, q1, r1 := bisector(b, c)
	p2, q2, r2 := bisector(c, a)
	under := minus(times(p1, q2), times(p2, q1))
	if under.Sign() == 0 {
		return place{}, false
	}
	return place{over(minus(times(r1, q2), times(r2, q1)), under), over(minus(times(p1, r2), times(p2, r1)), under)}, true
}

// wantNear2 goes by the nearest place of the segment: by which part of the way from a to b.
func wantNear2(a place, b place, p place) *big.Rat {
	whole := far(a, b)
	if whole.Sign() == 0 {
		return far(a, p)
	}
	part := over(minus(plus(far(a, p), whole), far(b, p)), plus(whole, whole))
	switch {
	case part.Sign() < 0:
		part = small(0, 1)
	case part.Cmp(small(1, 1)) > 0:
		part = small(1, 1)
	}
	return far(between(a, b, part), p)
}

// wantSharp goes by the lengths alone: the edge across is shorter, squared, than both others are less their product.
func wantSharp(a place, b place, c place) bool {
	first, second := far(a, b), far(b, c)
	left := minus(plus(first, second), far(c, a))
	return left.Sign() > 0 && times(left, left).Cmp(times(first, second)) > 0
}

// wantRatio2 is what the chapter says.
func wantRatio2(a place, b place, c place) *big.Rat {
	m, _ := centre(a, b, c)
	short := far(a, b)
	for _, x := range []*big.Rat{far(b, c), far(c, a)} {
		if x.Cmp(short) < 0 {
			short = x
		}
	}
	return over(far(m, a), short)
}

func random() *rand.Rand { return rand.New(rand.NewPCG(41, 42)) }

// fraction is a number of n bytes above the stroke and below it (less, if both can be cut), of either sign.
func fraction(r *rand.Rand, n int) *big.Rat {
	parts := [2][]byte{make([]byte, n), make([]byte, n)}
	for _, part := range parts {
		for i := range part {
			part[i] = byte(r.Uint32())
		}
		part[0] |= 0x80
	}
	x := new(big.Rat).SetFrac(new(big.Int).SetBytes(parts[0]), new(big.Int).SetBytes(parts[1]))
	if r.IntN(2) == 0 {
		x.Neg(x)
	}
	return x
}

// anyPlace is one of two such numbers.
func anyPlace(r *rand.Rand, n int) place { return place{fraction(r, n), fraction(r, n)} }
