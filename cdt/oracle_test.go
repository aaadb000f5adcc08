package cdt_test

import (
	"math/big"
	"math/rand/v2"
	"slices"

	"gusset/api"
	"gusset/rat"
)

// What the answers are held against: the library's numbers, and the chapter's words one by one.

func at(x, y int) api.Point { return api.Point{X: rat.Of(x), Y: rat.Of(y)} }

// ratOf is a number of the library as a Rat, bigOf the other way.
func ratOf(x *big.Rat) api.Rat {
	num := api.Int{Neg: x.Sign() < 0, Mag: api.Nat(x.Num().Bytes())}
	return api.Rat{Num: num, Den: api.Nat(x.Denom().Bytes())}
}

func bigOf(a api.Rat) *big.Rat {
	x := new(big.Rat).SetFrac(new(big.Int).SetBytes([]byte(a.Num.Mag)), new(big.Int).SetBytes([]byte(a.Den)))
	if a.Num.Neg {
		x.Neg(x)
	}
	return x
}

func times(x *big.Rat, y *big.Rat) *big.Rat { return new(big.Rat).Mul(x, y) }
func plus(x *big.Rat, y *big.Rat) *big.Rat  { return new(big.Rat).Add(x, y) }
func minus(x *big.Rat, y *big.Rat) *big.Rat { return new(big.Rat).Sub(x, y) }
func over(x *big.Rat, y *big.Rat) *big.Rat  { return new(big.Rat).Quo(x, y) }

func small(n int, d int) *big.Rat { return big.NewRat(int64(n), int64(d)) }

// place is a point of the library's numbers.
type place struct{ x, y *big.Rat }

func places(l []api.Point) []place {
	out := []place(nil)
	for _, p := range l {
		out = append(out, place{bigOf(p.X), bigOf(p.Y)})
	}
	return out
}

// far is how far two places are apart, squared.
func far(p, q place) *big.Rat {
	x, y := minus(p.x, q.x), minus(p.y, q.y)
	return plus(times(x, x), times(y, y))
}

// area is twice that of a triangle.
func area(a, b, c place) *big.Rat {
	return minus(times(minus(b.x, a.x), minus(c.y, a.y)), times(minus(b.y, a.y), minus(c.x, a.x)))
}

// turn is how three places turn.
func turn(a, b, c place) int { return area(a, b, c).Sign() }

// on tells whether p is in the line of a and b, and no farther than these are in X and Y.
func on(a, b, p place) bool {
	inside := func(x, y, z *big.Rat) bool { return x.Cmp(z)*y.Cmp(z) <= 0 }
	return turn(a, b, p) == 0 && inside(a.x, b.x, p.x) && inside(a.y, b.y, p.y)
}

// meet tells whether two segments have a point in common.
func meet(a, b, c, d place) bool {
	if on(a, b, c) || on(a, b, d) || on(c, d, a) || on(c, d, b) {
		return true
	}
	return turn(a, b, c)*turn(a, b, d) < 0 && turn(c, d, a)*turn(c, d, b) < 0
}

// circle is the centre of that through three places, and its radius, squared.
func circle(a, b, c place) (place, *big.Rat) {
	line := func(p, q place) (*big.Rat, *big.Rat, *big.Rat) { // of all places as far from p as from q
		x, y := minus(q.x, p.x), minus(q.y, p.y)
		return x, y, plus(times(x, over(plus(p.x, q.x), small(2, 1))), times(y, over(plus(p.y, q.y), small(2, 1))))
	}
	p1, q1, r1 := line(a, b)
	p2, q2, r2 := line(b, c)
	under := minus(times(p1, q2), times(p2, q1))
	centre := place{over(minus(times(r1, q2), times(r2, q1)), under), over(minus(times(p1, r2), times(p2, r1)), under)}
	return centre, far(centre, a)
}

// wantCross tells whether segments, whose ends are right, may not be.
func wantCross(l []place, segs []api.Seg) bool {
	for i, s := range segs {
		if inTheWay(l, segs[:i], s) {
			return true
		}
	}
	return false
}

// inTheWay tells whether a segment may not be beside some others: it holds it against each point, and against each of those.
func inTheWay(l []place, segs []api.Seg, s api.Seg) bool {
	for v, p := range l {
		if v != s.A && v != s.B && on(l[s.A], l[s.B], p) {
			return true
		}
	}
	for _, u := range segs {
		common := 0
		for _, v := range []int{u.A, u.B} {
			if v == s.A || v == s.B {
				common++
			}
		}
		if common == 2 || common == 0 && meet(l[s.A], l[s.B], l[u.A], l[u.B]) {
			return true
		}
	}
	return false
}

// find looks for the third corner of the triangle that has an edge from a to b; -1, if there is none.
func find(tris []api.Tri, a, b int) int {
	for _, t := range tris {
		for k := range 3 {
			if t[k] == a && t[(k+1)%3] == b {
				return t[(k+2)%3]
			}
		}
	}
	return -1
}

// isSeg tells whether there is a segment with the ends a and b.
func isSeg(segs []api.Seg, a, b int) bool {
	return slices.ContainsFunc(segs, func(s api.Seg) bool { return s.A == a && s.B == b || s.A == b && s.B == a })
}

// wantLegal asks every edge from both sides.
func wantLegal(m api.Mesh) bool {
	l := places(m.Points)
	for _, t := range m.Tris {
		centre, radius := circle(l[t[0]], l[t[1]], l[t[2]])
		for k := range 3 {
			a, b := t[k], t[(k+1)%3]
			if d := find(m.Tris, b, a); d >= 0 && !isSeg(m.Segs, a, b) && far(centre, l[d]).Cmp(radius) < 0 {
				return false
			}
		}
	}
	return true
}

// apart tells whether the insides of two triangles that turn to the left have no point in common: an edge of one has the other on its right.
func apart(l []place, t, u api.Tri) bool {
	for range 2 {
		for k := range 3 {
			a, b := l[t[k]], l[t[(k+1)%3]]
			if !slices.ContainsFunc(u[:], func(v int) bool { return turn(a, b, l[v]) > 0 }) {
				return true
			}
		}
		t, u = u, t
	}
	return false
}

// seen tells whether there is no segment between two places. (One that ends at the second of them is not between.)
func seen(l []place, segs []api.Seg, from place, v int) bool {
	return !slices.ContainsFunc(segs, func(s api.Seg) bool {
		return s.A != v && s.B != v && meet(from, l[v], l[s.A], l[s.B])
	})
}

// weighed is a place in between some, each of which counts by its weight.
func weighed(l []place, weights ...int) place {
	out, sum := place{new(big.Rat), new(big.Rat)}, 0
	for i, w := range weights {
		out = place{plus(out.x, times(l[i].x, small(w, 1))), plus(out.y, times(l[i].y, small(w, 1)))}
		sum += w
	}
	return place{times(out.x, small(1, sum)), times(out.y, small(1, sum))}
}

func random() *rand.Rand { return rand.New(rand.NewPCG(141, 142)) }

// fraction is a number of n bytes above the stroke and below it (less, if both can be cut), of either sign.
func fraction(r *rand.Rand, n int) *big.Rat {
	parts := [2][]byte{make([]byte, n), make([]byte, n)}
	for _, part := range parts {
		for i := range part {
			part[i] = byte(r.Uint32())
		}
		part[0] |= 0x80
	}
	x := new(big.Rat).SetFrac(new(big.Int).SetBytes(parts[0]), new(big.Int).SetBytes(parts[1]))
	if r.IntN(2) == 0 {
		x.Neg(x)
	}
	return x
}

// drawn is points turned, drawn larger or smaller, and moved, all by numbers of n bytes.
func drawn(r *rand.Rand, l []api.Point, n int) []api.Point {
	c, d, moveX, moveY := fraction(r, n), fraction(r, n), fraction(r, n), fraction(r, n)
	out := []api.Point(nil)
	for _, p := range l {
		x, y := bigOf(p.X), bigOf(p.Y)
		out = append(out, api.Point{X: ratOf(plus(minus(times(c, x), times(d, y)), moveX)), Y: ratOf(plus(plus(times(d, x), times(c, y)), moveY))})
	}
	return out
}

// scatter is n points, or less, of a grid of so many columns and rows, no two of them one.
func scatter(r *rand.Rand, n, columns, rows int) []api.Point {
	out := []api.Point(nil)
	for _, i := range r.Perm(columns * rows)[:min(n, columns*rows)] {
		out = append(out, at(i%columns, i/columns))
	}
	return out
}

// joined are n segments between points, at most: tried at random, and taken if they may stand beside those that were.
func joined(r *rand.Rand, l []api.Point, n, tries int) []api.Seg {
	all, out := places(l), []api.Seg(nil)
	for range tries {
		s := api.Seg{A: r.IntN(len(l)), B: r.IntN(len(l)), Fixed: r.IntN(2) == 0}
		if len(out) < n && s.A != s.B && !inTheWay(all, out, s) {
			out = append(out, s)
		}
	}
	return out
}

// flat tells whether all places lie in a line.
func flat(l []place) bool {
	for i := range l {
		for j := range i {
			if turn(l[0], l[j], l[i]) != 0 {
				return false
			}
		}
	}
	return true
}
