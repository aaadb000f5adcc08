package refine_test

import (
	"math/big"
	"math/rand/v2"
	"slices"

	"gusset/api"
	"gusset/rat"
)

// What the answers are held against: the library's numbers, and the chapter's words one by one, asked of all that there is.

func at(x, y int) api.Point { return api.Point{X: rat.Of(x), Y: rat.Of(y)} }

// ratOf is a number of the library as a Rat, bigOf the other way.
func ratOf(x *big.Rat) api.Rat {
	num := api.Int{Neg: x.Sign() < 0, Mag: api.Nat(x.Num().Bytes())}
	return api.Rat{Num: num, Den: api.Nat(x.Denom().Bytes())}
}

func bigOf(a api.Rat) *big.Rat {
	x := new(big.Rat).SetFrac(new(big.Int).SetBytes([]byte(a.Num.Mag)), new(big.Int).SetBytes([]byte(a.Den)))
	if a.Num.Neg {
		x.Neg(x)
	}
	return x
}

func times(x *big.Rat, y *big.Rat) *big.Rat { return new(big.Rat).Mul(x, y) }
func plus(x *big.Rat, y *big.Rat) *big.Rat  { return new(big.Rat).Add(x, y) }
func minus(x *big.Rat, y *big.Rat) *big.Rat { return new(big.Rat).Sub(x, y) }
func over(x *big.Rat, y *big.Rat) *big.Rat  { return new(big.Rat).Quo(x, y) }

func small(n int, d int) *big.Rat { return big.NewRat(int64(n), int64(d)) }

// least is the least of numbers.
func least(l ...*big.Rat) *big.Rat {
	return slices.MinFunc(l, func(x, y *big.Rat) int { return x.Cmp(y) })
}

// place is a point of the library's numbers.
type place struct{ x, y *big.Rat }

func placeOf(p api.Point) place { return place{bigOf(p.X), bigOf(p.Y)} }

func places(l []api.Point) []place {
	out := []place(nil)
	for _, p := range l {
		out = append(out, placeOf(p))
	}
	return out
}

// far is how far two places are apart, squared.
func far(p, q place) *big.Rat {
	x, y := minus(p.x, q.x), minus(p.y, q.y)
	return plus(times(x, x), times(y, y))
}

// area is twice that of a triangle.
func area(a, b, c place) *big.Rat {
	return minus(times(minus(b.x, a.x), minus(c.y, a.y)), times(minus(b.y, a.y), minus(c.x, a.x)))
}

func turn(a, b, c place) int { return area(a, b, c).Sign() }

// on tells whether p is in the line of a and b, and no farther than these are in X and Y.
func on(a, b, p place) bool {
	inside := func(x, y, z *big.Rat) bool { return x.Cmp(z)*y.Cmp(z) <= 0 }
	return turn(a, b, p) == 0 && inside(a.x, b.x, p.x) && inside(a.y, b.y, p.y)
}

// circle is the centre of that through three places, and its radius, squared.
func circle(a, b, c place) (place, *big.Rat) {
	line := func(p, q place) (*big.Rat, *big.Rat, *big.Rat) { // of all places as far from p as from q
		x, y := minus(q.x, p.x), minus(q.y, p.y)
		return x, y, plus(times(x, over(plus(p.x, q.x), small(2, 1))), times(y, over(plus(p.y, q.y), small(2, 1))))
	}
	p1, q1, r1 := line(a, b)
	p2, q2, r2 := line(b, c)
	under := minus(times(p1, q2), times(p2, q1))
	centre := place{over(minus(times(r1, q2), times(r2, q1)), under), over(minus(times(p1, r2), times(p2, r1)), under)}
	return centre, far(centre, a)
}

// third is the third corner of the triangle that has an edge from a to b; -1, if there is none.
func third(m api.Mesh, a, b int) int {
	for _, t := range m.Tris {
		for k := range 3 {
			if t[k] == a && t[(k+1)%3] == b {
				return t[(k+2)%3]
			}
		}
	}
	return -1
}

// isSeg tells whether there is a segment with the ends a and b.
func isSeg(m api.Mesh, a, b int) bool {
	return slices.ContainsFunc(m.Segs, func(s api.Seg) bool { return s.A == a && s.B == b || s.A == b && s.B == a })
}

// wantBad asks each triangle, by its circle.
func wantBad(m api.Mesh, sizes []api.Size) []int {
	l, out := places(m.Points), []int(nil)
	for i, t := range m.Tris {
		a, b, c := l[t[0]], l[t[1]], l[t[2]]
		centre, radius2 := circle(a, b, c)
		bad := over(radius2, least(far(a, b), far(b, c), far(c, a))).Cmp(small(2, 1)) > 0
		for _, s := range sizes {
			near := far(centre, placeOf(s.Centre)).Cmp(bigOf(s.Within2)) <= 0
			bad = bad || near && radius2.Cmp(bigOf(s.Most2)) > 0
		}
		if bad {
			out = append(out, i)
		}
	}
	return out
}

// wantCrowded asks the corners on both sides of each segment how far they are from its middle.
func wantCrowded(m api.Mesh) []int {
	l, out := places(m.Points), []int(nil)
	for i, s := range m.Segs {
		a, b := l[s.A], l[s.B]
		middle := place{over(plus(a.x, b.x), small(2, 1)), over(plus(a.y, b.y), small(2, 1))}
		for _, v := range []int{third(m, s.A, s.B), third(m, s.B, s.A)} {
			if v >= 0 && far(middle, l[v]).Cmp(far(middle, a)) < 0 {
				out = append(out, i)
				break
			}
		}
	}
	return out
}

// wantTidy asks a mesh that may be: each edge, and each pair of triangles.
func wantTidy(m api.Mesh) bool {
	l := places(m.Points)
	for i, t := range m.Tris {
		centre, radius2 := circle(l[t[0]], l[t[1]], l[t[2]])
		for k := range 3 {
			a, b := t[k], t[(k+1)%3]
			d, held := third(m, b, a), isSeg(m, a, b)
			if !held && (d < 0 || far(centre, l[d]).Cmp(radius2) < 0) {
				return false
			}
		}
		for _, u := range m.Tris[:i] {
			if !beside(l, t, u) && !apart(l, t, u) {
				return false
			}
		}
	}
	return true
}

// beside tells whether a triangle lies to the left or to the right of another, above or below it: most do, and it is soon told.
func beside(l []place, t, u api.Tri) bool {
	number := func(v int, y bool) *big.Rat {
		if y {
			return l[v].y
		}
		return l[v].x
	}
	for _, y := range []bool{false, true} {
		for range 2 {
			greatest, lowest := number(t[0], y), number(u[0], y)
			for k := range 3 {
				if x := number(t[k], y); x.Cmp(greatest) > 0 {
					greatest = x
				}
				if x := number(u[k], y); x.Cmp(lowest) < 0 {
					lowest = x
				}
			}
			if greatest.Cmp(lowest) <= 0 {
				return true
			}
			t, u = u, t
		}
	}
	return false
}

// apart tells whether the insides of two triangles that turn to the left have no point in common: an edge of one has the other on its right.
func apart(l []place, t, u api.Tri) bool {
	for range 2 {
		for k := range 3 {
			a, b := l[t[k]], l[t[(k+1)%3]]
			if !slices.ContainsFunc(u[:], func(v int) bool { return turn(a, b, l[v]) > 0 }) {
				return true
			}
		}
		t, u = u, t
	}
	return false
}

// shortest is the shortest edge, squared.
func shortest(m api.Mesh) *big.Rat {
	l, out := places(m.Points), []*big.Rat(nil)
	for _, t := range m.Tris {
		out = append(out, far(l[t[0]], l[t[1]]), far(l[t[1]], l[t[2]]), far(l[t[2]], l[t[0]]))
	}
	return least(out...)
}

func same(a, b api.Mesh) bool {
	return slices.Equal(a.Points, b.Points) && slices.Equal(a.Tris, b.Tris) && slices.Equal(a.Segs, b.Segs)
}

func none(m api.Mesh) bool { return same(m, api.Mesh{}) }

func cloned(m api.Mesh) api.Mesh {
	return api.Mesh{Points: slices.Clone(m.Points), Tris: slices.Clone(m.Tris), Segs: slices.Clone(m.Segs)}
}

func random() *rand.Rand { return rand.New(rand.NewPCG(161, 162)) }

// fraction is a number of n bytes above the stroke and below it (less, if both can be cut), of either sign.
func fraction(r *rand.Rand, n int) *big.Rat {
	parts := [2][]byte{make([]byte, n), make([]byte, n)}
	for _, part := range parts {
		for i := range part {
			part[i] = byte(r.Uint32())
		}
		part[0] |= 0x80
	}
	x := new(big.Rat).SetFrac(new(big.Int).SetBytes(parts[0]), new(big.Int).SetBytes(parts[1]))
	if r.IntN(2) == 0 {
		x.Neg(x)
	}
	return x
}

// drawn is points turned, drawn larger or smaller, and moved, all by numbers of n bytes; and how much larger, squared.
func drawn(r *rand.Rand, l []api.Point, n int) ([]api.Point, *big.Rat) {
	c, d, moveX, moveY := fraction(r, n), fraction(r, n), fraction(r, n), fraction(r, n)
	out := []api.Point(nil)
	for _, p := range l {
		x, y := bigOf(p.X), bigOf(p.Y)
		out = append(out, api.Point{X: ratOf(plus(minus(times(c, x), times(d, y)), moveX)), Y: ratOf(plus(plus(times(d, x), times(c, y)), moveY))})
	}
	return out, plus(times(c, c), times(d, d))
}

// scatter is n points of a grid, no two of them one.
func scatter(r *rand.Rand, n, columns, rows int) []api.Point {
	out := []api.Point(nil)
	for _, i := range r.Perm(columns * rows)[:min(n, columns*rows)] {
		out = append(out, at(i%columns, i/columns))
	}
	return out
}
