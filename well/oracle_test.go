package well_test

import (
	"math/big"
	"math/rand/v2"

	"gusset/api"
	"gusset/rat"
)

// What the answers are held against: the library's numbers, and the chapter's rules one by one, each of which asks about all that there is, whatever the rules ahead of it say.

// place is a point of the library's numbers.
type place struct{ x, y *big.Rat }

// ratOf is a number of the library as a Rat.
func ratOf(x *big.Rat) api.Rat {
	num := api.Int{Neg: x.Sign() < 0, Mag: api.Nat(x.Num().Bytes())}
	return api.Rat{Num: num, Den: api.Nat(x.Denom().Bytes())}
}

func (p place) point() api.Point { return api.Point{X: ratOf(p.x), Y: ratOf(p.y)} }

func times(x *big.Rat, y *big.Rat) *big.Rat { return new(big.Rat).Mul(x, y) }
func plus(x *big.Rat, y *big.Rat) *big.Rat  { return new(big.Rat).Add(x, y) }
func minus(x *big.Rat, y *big.Rat) *big.Rat { return new(big.Rat).Sub(x, y) }
func over(x *big.Rat, y *big.Rat) *big.Rat  { return new(big.Rat).Quo(x, y) }

func small(n int, d int) *big.Rat { return big.NewRat(int64(n), int64(d)) }

// far is how far two places are apart, squared.
func far(p place, q place) *big.Rat {
	x, y := minus(p.x, q.x), minus(p.y, q.y)
	return plus(times(x, x), times(y, y))
}

func same(p place, q place) bool { return p.x.Cmp(q.x) == 0 && p.y.Cmp(q.y) == 0 }

// area is twice that of a triangle, by its corners one behind the other.
func area(a place, b place, c place) *big.Rat {
	sum := new(big.Rat)
	for _, pair := range [][2]place{{a, b}, {b, c}, {c, a}} {
		sum = plus(sum, minus(times(pair[0].x, pair[1].y), times(pair[1].x, pair[0].y)))
	}
	return sum
}

// wantOn asks whether p is in the line, and no farther than the ends are in X and Y.
func wantOn(a, b, p place) bool {
	inside := func(x, y, z *big.Rat) bool { return x.Cmp(z)*y.Cmp(z) <= 0 }
	return area(a, b, p).Sign() == 0 && inside(a.x, b.x, p.x) && inside(a.y, b.y, p.y)
}

// wantCross asks for places that the segments of a, b and of c, d have in common: where their lines cross, and the ends. Two of them are a piece of both.
func wantCross(a, b, c, d place) bool {
	l := []place{a, b, c, d}
	firstX, firstY, secondX, secondY := minus(b.x, a.x), minus(b.y, a.y), minus(d.x, c.x), minus(d.y, c.y)
	if under := minus(times(firstX, secondY), times(firstY, secondX)); under.Sign() != 0 {
		part := over(minus(times(minus(c.x, a.x), secondY), times(minus(c.y, a.y), secondX)), under)
		l = append(l, place{plus(a.x, times(part, firstX)), plus(a.y, times(part, firstY))})
	}
	common := []place(nil)
	for _, p := range l {
		if wantOn(a, b, p) && wantOn(c, d, p) {
			common = append(common, p)
		}
	}
	for _, p := range common {
		if !same(p, common[0]) || !same(p, a) && !same(p, b) || !same(p, c) && !same(p, d) {
			return true
		}
	}
	return false
}

// wantSharp goes by the lengths alone: by how far apart the ways' ends are.
func wantSharp(a place, b place, c place) bool {
	first, second := far(a, b), far(b, c)
	left := minus(plus(first, second), far(c, a))
	return left.Sign() > 0 && times(left, left).Cmp(times(first, second)) > 0
}

// sketch is a plan of the library's numbers, with F and G 0.
type sketch struct {
	points []place
	segs   []api.Seg
	holes  []place
}

func (s sketch) plan() api.Plan {
	p := api.Plan{Segs: s.segs}
	for _, q := range s.points {
		p.Points = append(p.Points, q.point())
	}
	for _, q := range s.holes {
		p.Holes = append(p.Holes, q.point())
	}
	for i := range p.F {
		p.F[i], p.G[i] = rat.Of(0), rat.Of(0)
	}
	return p
}

// found is what First answers.
type found struct {
	e    api.Errno
	a, b int
}

// found2 asks about all pairs of numbers below n and m, the first number rising, then the second.
func found2(e api.Errno, n int, m int, wrong func(i, j int) bool) found {
	for k := range n * m {
		if wrong(k/m, k%m) {
			return found{e, k / m, k % m}
		}
	}
	return found{}
}

// want is what First should answer: of the rules from the third on, for all before are kept.
func (s sketch) want() found {
	ends := func(i int) (place, place) { return s.points[s.segs[i].A], s.points[s.segs[i].B] }
	points, segs, holes := len(s.points), len(s.segs), len(s.holes)
	for _, rule := range []func() found{
		func() found {
			return found2(api.ErrArg, segs, 1, func(i, _ int) bool {
				a, b := s.segs[i].A, s.segs[i].B
				return a < 0 || a >= points || b < 0 || b >= points || a == b
			})
		},
		func() found {
			return found2(api.ErrTwice, points, points, func(i, j int) bool { return i > j && same(s.points[i], s.points[j]) })
		},
		func() found {
			return found2(api.ErrCross, segs, points, func(i, j int) bool {
				a, b := ends(i)
				return j != s.segs[i].A && j != s.segs[i].B && wantOn(a, b, s.points[j])
			})
		},
		func() found {
			return found2(api.ErrCross, segs, segs, func(i, j int) bool {
				a, b := ends(i)
				c, d := ends(j)
				return i > j && wantCross(a, b, c, d)
			})
		},
		func() found {
			return found2(api.ErrAngle, segs, segs, func(i, j int) bool { return i > j && s.sharp(s.segs[i], s.segs[j]) })
		},
		func() found {
			return found2(api.ErrHole, holes, 1, func(i, _ int) bool { return s.blocked(s.holes[i]) })
		},
	} {
		if f := rule(); f.e != api.OK {
			return f
		}
	}
	return found{}
}

// sharp asks about all four ways in which two segments may have an end in common.
func (s sketch) sharp(t api.Seg, u api.Seg) bool {
	for _, first := range [][2]int{{t.A, t.B}, {t.B, t.A}} {
		for _, second := range [][2]int{{u.A, u.B}, {u.B, u.A}} {
			if first[1] == second[0] && wantSharp(s.points[first[0]], s.points[first[1]], s.points[second[1]]) {
				return true
			}
		}
	}
	return false
}

func (s sketch) blocked(hole place) bool {
	for _, p := range s.points {
		if same(p, hole) {
			return true
		}
	}
	for _, t := range s.segs {
		if wantOn(s.points[t.A], s.points[t.B], hole) {
			return true
		}
	}
	return false
}

func random() *rand.Rand { return rand.New(rand.NewPCG(101, 102)) }

// fraction is a number of n bytes above the stroke and below it (less, if both can be cut), of either sign.
func fraction(r *rand.Rand, n int) *big.Rat {
	parts := [2][]byte{make([]byte, n), make([]byte, n)}
	for _, part := range parts {
		for i := range part {
			part[i] = byte(r.Uint32())
		}
		part[0] |= 0x80
	}
	x := new(big.Rat).SetFrac(new(big.Int).SetBytes(parts[0]), new(big.Int).SetBytes(parts[1]))
	if r.IntN(2) == 0 {
		x.Neg(x)
	}
	return x
}

// drawn is a sketch that is turned, drawn larger or smaller, and moved, all by numbers of n bytes.
func drawn(r *rand.Rand, s sketch, n int) sketch {
	c, d, moveX, moveY := fraction(r, n), fraction(r, n), fraction(r, n), fraction(r, n)
	carry := func(l []place) []place {
		out := []place(nil)
		for _, p := range l {
			x, y := minus(times(c, p.x), times(d, p.y)), plus(times(d, p.x), times(c, p.y))
			out = append(out, place{plus(x, moveX), plus(y, moveY)})
		}
		return out
	}
	return sketch{carry(s.points), s.segs, carry(s.holes)}
}
