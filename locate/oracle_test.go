package locate_test

import (
	"math/big"
	"math/rand/v2"
	"slices"

	"gusset/api"
	"gusset/rat"
)

// What the answers are held against: the library's numbers, and the chapter's words one by one.

func at(x, y int) api.Point { return api.Point{X: rat.Of(x), Y: rat.Of(y)} }

// ratOf is a number of the library as a Rat, bigOf the other way.
func ratOf(x *big.Rat) api.Rat {
	num := api.Int{Neg: x.Sign() < 0, Mag: api.Nat(x.Num().Bytes())}
	return api.Rat{Num: num, Den: api.Nat(x.Denom().Bytes())}
}

func bigOf(a api.Rat) *big.Rat {
	x := new(big.Rat).SetFrac(new(big.Int).SetBytes([]byte(a.Num.Mag)), new(big.Int).SetBytes([]byte(a.Den)))
	if a.Num.Neg {
		x.Neg(x)
	}
	return x
}

func times(x *big.Rat, y *big.Rat) *big.Rat { return new(big.Rat).Mul(x, y) }
func plus(x *big.Rat, y *big.Rat) *big.Rat  { return new(big.Rat).Add(x, y) }
func minus(x *big.Rat, y *big.Rat) *big.Rat { return new(big.Rat).Sub(x, y) }
func over(x *big.Rat, y *big.Rat) *big.Rat  { return new(big.Rat).Quo(x, y) }

func small(n int, d int) *big.Rat { return big.NewRat(int64(n), int64(d)) }

// way is from one point to another.
func way(p, q api.Point) (*big.Rat, *big.Rat) {
	return minus(bigOf(q.X), bigOf(p.X)), minus(bigOf(q.Y), bigOf(p.Y))
}

// turn is how three points turn.
func turn(a, b, c api.Point) int {
	firstX, firstY := way(a, b)
	secondX, secondY := way(a, c)
	return times(firstX, secondY).Cmp(times(firstY, secondX))
}

// shares tells how p is got from the first corner of a triangle: by which parts of the ways to the second and to the third one.
func shares(m api.Mesh, t api.Tri, p api.Point) (*big.Rat, *big.Rat) {
	firstX, firstY := way(m.Points[t[0]], m.Points[t[1]])
	secondX, secondY := way(m.Points[t[0]], m.Points[t[2]])
	x, y := way(m.Points[t[0]], p)
	under := minus(times(firstX, secondY), times(firstY, secondX))
	return over(minus(times(x, secondY), times(y, secondX)), under), over(minus(times(firstX, y), times(firstY, x)), under)
}

// wantAt asks each triangle for the shares of p.
func wantAt(m api.Mesh, p api.Point) (int, int) {
	for i, t := range m.Tris {
		second, third := shares(m, t, p)
		left := minus(small(1, 1), plus(second, third))
		if sign := min(left.Sign(), second.Sign(), third.Sign()); sign >= 0 {
			return i, sign
		}
	}
	return -1, 0
}

// wantWalk goes step by step: from each triangle to the next one, looked for among all; it gives up where a triangle comes again.
func wantWalk(m api.Mesh, t int, p api.Point) ([]int, api.Errno) {
	out := []int(nil)
	for t >= 0 {
		if slices.Contains(out, t) {
			return nil, api.ErrMesh
		}
		out = append(out, t)
		next := -2
		for k := 2; k >= 0; k-- {
			if a, b := m.Tris[t][k], m.Tris[t][(k+1)%3]; turn(m.Points[a], m.Points[b], p) < 0 {
				next = find(m, b, a)
			}
		}
		t = next
	}
	if t == -1 {
		out = append(out, -1)
	}
	return out, api.OK
}

// find looks for the triangle that has an edge from a to b; -1, if there is none.
func find(m api.Mesh, a, b int) int {
	for i, t := range m.Tris {
		for k := range 3 {
			if t[k] == a && t[(k+1)%3] == b {
				return i
			}
		}
	}
	return -1
}

// wantValue goes from the first corner along both ways.
func wantValue(m api.Mesh, u []api.Rat, p api.Point) (api.Rat, bool) {
	t, _ := wantAt(m, p)
	if t < 0 {
		return rat.Of(0), false
	}
	tri := m.Tris[t]
	second, third := shares(m, tri, p)
	first := bigOf(u[tri[0]])
	rise := plus(times(second, minus(bigOf(u[tri[1]]), first)), times(third, minus(bigOf(u[tri[2]]), first)))
	return ratOf(plus(first, rise)), true
}

func random() *rand.Rand { return rand.New(rand.NewPCG(121, 122)) }

// fraction is a number of n bytes above the stroke and below it (less, if both can be cut), of either sign.
func fraction(r *rand.Rand, n int) *big.Rat {
	parts := [2][]byte{make([]byte, n), make([]byte, n)}
	for _, part := range parts {
		for i := range part {
			part[i] = byte(r.Uint32())
		}
		part[0] |= 0x80
	}
	x := new(big.Rat).SetFrac(new(big.Int).SetBytes(parts[0]), new(big.Int).SetBytes(parts[1]))
	if r.IntN(2) == 0 {
		x.Neg(x)
	}
	return x
}

// values are as many such numbers as there are points.
func values(r *rand.Rand, m api.Mesh, n int) []api.Rat {
	out := []api.Rat(nil)
	for range m.Points {
		out = append(out, ratOf(fraction(r, n)))
	}
	return out
}

// weighed is a point in between some, each of which counts by its weight.
func weighed(l []api.Point, weights ...int) api.Point {
	x, y, sum := new(big.Rat), new(big.Rat), 0
	for i, w := range weights {
		x, y = plus(x, times(bigOf(l[i].X), small(w, 1))), plus(y, times(bigOf(l[i].Y), small(w, 1)))
		sum += w
	}
	return api.Point{X: ratOf(times(x, small(1, sum))), Y: ratOf(times(y, small(1, sum)))}
}

// corners are those of a triangle of a mesh, from its corner k on.
func corners(m api.Mesh, t, k int) []api.Point {
	tri := m.Tris[t]
	return []api.Point{m.Points[tri[k]], m.Points[tri[(k+1)%3]], m.Points[tri[(k+2)%3]]}
}

// cloned is a mesh in memory of its own.
func cloned(m api.Mesh) api.Mesh {
	return api.Mesh{Points: slices.Clone(m.Points), Tris: slices.Clone(m.Tris), Segs: slices.Clone(m.Segs)}
}

func sameMesh(m, n api.Mesh) bool {
	return slices.Equal(m.Points, n.Points) && slices.Equal(m.Tris, n.Tris) && slices.Equal(m.Segs, n.Segs)
}

// drawer turns points, draws them larger or smaller, and moves them, all by numbers of n bytes.
func drawer(r *rand.Rand, n int) func(p api.Point) api.Point {
	c, d, moveX, moveY := fraction(r, n), fraction(r, n), fraction(r, n), fraction(r, n)
	return func(p api.Point) api.Point {
		x, y := bigOf(p.X), bigOf(p.Y)
		return api.Point{X: ratOf(plus(minus(times(c, x), times(d, y)), moveX)), Y: ratOf(plus(plus(times(d, x), times(c, y)), moveY))}
	}
}

// drawn is a mesh whose points are drawn elsewhere.
func drawn(m api.Mesh, draw func(p api.Point) api.Point) api.Mesh {
	out := cloned(m)
	for i, p := range m.Points {
		out.Points[i] = draw(p)
	}
	return out
}

// square is that of chapter 11's example.
func square() api.Mesh {
	return api.Mesh{Points: []api.Point{at(0, 0), at(2, 0), at(2, 2), at(0, 2)}, Tris: []api.Tri{{0, 1, 2}, {0, 2, 3}}}
}

// net is a mesh of squares, n by n, each of two triangles by either diagonal, told from any corner on, in any order; some are left out.
func net(r *rand.Rand, n int, out int) api.Mesh {
	m := api.Mesh{}
	for i := range (n + 1) * (n + 1) {
		m.Points = append(m.Points, at(i%(n+1), i/(n+1)))
	}
	add := func(a, b, c int) {
		tri := api.Tri{a, b, c}
		for range r.IntN(3) {
			tri = api.Tri{tri[1], tri[2], tri[0]}
		}
		m.Tris = append(m.Tris, tri)
	}
	for i := range n * n {
		a := i%n + i/n*(n+1)
		b, c, d := a+1, a+n+2, a+n+1
		if r.IntN(2) == 0 {
			a, b, c, d = b, c, d, a
		}
		add(a, b, c)
		add(a, c, d)
	}
	r.Shuffle(len(m.Tris), func(i, j int) { m.Tris[i], m.Tris[j] = m.Tris[j], m.Tris[i] })
	m.Tris = m.Tris[out:]
	return m
}

// mill is a mesh about (0, 0) whose triangles but for two lie about that in a ring, and lean so that each one's way to (0, 0) leads to the next.
func mill() api.Mesh {
	outer, inner := []api.Point{at(10, 0), at(0, 10), at(-10, 0), at(0, -10)}, []api.Point{at(2, -1), at(1, 2), at(-2, 1), at(-1, -2)}
	m := api.Mesh{Points: append(outer, inner...)}
	for i := range 4 {
		next := (i + 1) % 4
		m.Tris = append(m.Tris, api.Tri{i, next, 4 + i}, api.Tri{next, 4 + next, 4 + i})
	}
	m.Tris = append(m.Tris, api.Tri{4, 5, 6}, api.Tri{4, 6, 7})
	return m
}

// strip is a row of triangles, each over an edge of the one ahead of it: n of them.
func strip(n int) api.Mesh {
	m := api.Mesh{}
	for i := range n + 2 {
		m.Points = append(m.Points, at(i/2, i%2))
		switch {
		case i < 2:
		case i%2 == 0:
			m.Tris = append(m.Tris, api.Tri{i - 2, i, i - 1})
		default:
			m.Tris = append(m.Tris, api.Tri{i - 2, i - 1, i})
		}
	}
	return m
}
