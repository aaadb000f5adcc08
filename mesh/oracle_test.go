package mesh_test

import (
	"math/big"
	"math/rand/v2"
	"slices"

	"gusset/api"
	"gusset/rat"
)

// What the answers are held against: the library's numbers, and the chapter's words one by one, asked of all that there is.

func at(x, y int) api.Point { return api.Point{X: rat.Of(x), Y: rat.Of(y)} }

// ratOf is a number of the library as a Rat, bigOf the other way.
func ratOf(x *big.Rat) api.Rat {
	num := api.Int{Neg: x.Sign() < 0, Mag: api.Nat(x.Num().Bytes())}
	return api.Rat{Num: num, Den: api.Nat(x.Denom().Bytes())}
}

func bigOf(a api.Rat) *big.Rat {
	x := new(big.Rat).SetFrac(new(big.Int).SetBytes([]byte(a.Num.Mag)), new(big.Int).SetBytes([]byte(a.Den)))
	if a.Num.Neg {
		x.Neg(x)
	}
	return x
}

func times(x *big.Rat, y *big.Rat) *big.Rat { return new(big.Rat).Mul(x, y) }
func plus(x *big.Rat, y *big.Rat) *big.Rat  { return new(big.Rat).Add(x, y) }
func minus(x *big.Rat, y *big.Rat) *big.Rat { return new(big.Rat).Sub(x, y) }

func small(n int, d int) *big.Rat { return big.NewRat(int64(n), int64(d)) }

// area is twice that of a triangle, above 0 if it turns to the left.
func area(a, b, c api.Point) *big.Rat {
	ax, ay := bigOf(a.X), bigOf(a.Y)
	return minus(times(minus(bigOf(b.X), ax), minus(bigOf(c.Y), ay)), times(minus(bigOf(c.X), ax), minus(bigOf(b.Y), ay)))
}

// turnsLeft asks so of three points of a mesh, by their numbers.
func turnsLeft(m api.Mesh, a, b, c int) bool {
	return area(m.Points[a], m.Points[b], m.Points[c]).Sign() > 0
}

// find looks for the edge from a to b: in which triangle it is, and which one there. -1 and 0, if there is none.
func find(m api.Mesh, a, b int) (int, int) {
	for i, t := range m.Tris {
		for k := range 3 {
			if t[k] == a && t[(k+1)%3] == b {
				return i, k
			}
		}
	}
	return -1, 0
}

// joined tells whether two points are the ends of an edge.
func joined(m api.Mesh, a, b int) bool {
	t, _ := find(m, a, b)
	u, _ := find(m, b, a)
	return t >= 0 || u >= 0
}

// segmentAt is the number of the segment with two ends, or -1.
func segmentAt(m api.Mesh, a, b int) int {
	for i, s := range m.Segs {
		if s.A == a && s.B == b || s.A == b && s.B == a {
			return i
		}
	}
	return -1
}

// wantMay asks whether a mesh may be, word by word.
func wantMay(m api.Mesh) bool {
	isPoint := func(v int) bool { return v >= 0 && v < len(m.Points) }
	for i, t := range m.Tris {
		if !isPoint(t[0]) || !isPoint(t[1]) || !isPoint(t[2]) || !turnsLeft(m, t[0], t[1], t[2]) {
			return false
		}
		for k := range 3 {
			if u, _ := find(m, t[k], t[(k+1)%3]); u != i {
				return false
			}
		}
	}
	for i, s := range m.Segs {
		if !isPoint(s.A) || !isPoint(s.B) || !joined(m, s.A, s.B) || segmentAt(m, s.A, s.B) != i {
			return false
		}
	}
	return true
}

// wantEdges ranges the pairs of each triangle's corners, and leaves out those that stand twice.
func wantEdges(m api.Mesh) [][2]int {
	out := [][2]int(nil)
	for _, t := range m.Tris {
		slices.Sort(t[:])
		out = append(out, [2]int{t[0], t[1]}, [2]int{t[0], t[2]}, [2]int{t[1], t[2]})
	}
	slices.SortFunc(out, func(a, b [2]int) int { return (a[0]-b[0])*1000 + a[1] - b[1] })
	return slices.Compact(out)
}

// wantArea2 adds triangle by triangle.
func wantArea2(m api.Mesh) api.Rat {
	over, under := new(big.Int), big.NewInt(1) // lowest terms on the way would take their time
	for _, t := range m.Tris {
		x := area(m.Points[t[0]], m.Points[t[1]], m.Points[t[2]])
		over.Add(over.Mul(over, x.Denom()), new(big.Int).Mul(under, x.Num()))
		under.Mul(under, x.Denom())
	}
	return ratOf(new(big.Rat).SetFrac(over, under))
}

// cloned is a mesh in memory of its own.
func cloned(m api.Mesh) api.Mesh {
	return api.Mesh{Points: slices.Clone(m.Points), Tris: slices.Clone(m.Tris), Segs: slices.Clone(m.Segs)}
}

func sameMesh(m, n api.Mesh) bool {
	return slices.Equal(m.Points, n.Points) && slices.Equal(m.Tris, n.Tris) && slices.Equal(m.Segs, n.Segs)
}

// wantFlip, wantSplit, wantCut do what the words say, in a mesh that may be; points may be asked.
func wantFlip(m api.Mesh, t, k int) (api.Mesh, api.Errno) {
	if t < 0 || t >= len(m.Tris) || k < 0 || k > 2 {
		return api.Mesh{}, api.ErrArg
	}
	a, b, c := m.Tris[t][k], m.Tris[t][(k+1)%3], m.Tris[t][(k+2)%3]
	u, j := find(m, b, a)
	if u < 0 || segmentAt(m, a, b) >= 0 {
		return api.Mesh{}, api.ErrMesh
	}
	d := m.Tris[u][(j+2)%3]
	if joined(m, c, d) || !turnsLeft(m, d, b, c) || !turnsLeft(m, d, c, a) {
		return api.Mesh{}, api.ErrMesh
	}
	out := cloned(m)
	out.Tris[t], out.Tris[u] = api.Tri{d, b, c}, api.Tri{d, c, a}
	return out, api.OK
}

func wantSplit(m api.Mesh, t int, p api.Point) (api.Mesh, api.Errno) {
	if t < 0 || t >= len(m.Tris) {
		return api.Mesh{}, api.ErrArg
	}
	a, b, c := m.Tris[t][0], m.Tris[t][1], m.Tris[t][2]
	for _, side := range [][2]int{{a, b}, {b, c}, {c, a}} {
		if area(m.Points[side[0]], m.Points[side[1]], p).Sign() <= 0 {
			return api.Mesh{}, api.ErrMesh
		}
	}
	n := len(m.Points)
	if n == 400 || len(m.Tris) > 898 {
		return api.Mesh{}, api.ErrLimit
	}
	out := cloned(m)
	out.Points = append(out.Points, p)
	out.Tris[t] = api.Tri{a, b, n}
	out.Tris = append(out.Tris, api.Tri{b, c, n}, api.Tri{c, a, n})
	return out, api.OK
}

// between tells whether p lies on the segment of a and b, and is none of them: how far it is on the way, by X and by Y.
func between(a, b, p api.Point) bool {
	part := (*big.Rat)(nil)
	for _, l := range [][3]api.Rat{{a.X, b.X, p.X}, {a.Y, b.Y, p.Y}} {
		whole, gone := minus(bigOf(l[1]), bigOf(l[0])), minus(bigOf(l[2]), bigOf(l[0]))
		if whole.Sign() == 0 {
			if gone.Sign() != 0 {
				return false
			}
			continue
		}
		gone.Quo(gone, whole)
		if part != nil && part.Cmp(gone) != 0 {
			return false
		}
		part = gone
	}
	return part != nil && part.Sign() > 0 && part.Cmp(small(1, 1)) < 0
}

func wantCut(m api.Mesh, t, k int, p api.Point) (api.Mesh, api.Errno) {
	if t < 0 || t >= len(m.Tris) || k < 0 || k > 2 {
		return api.Mesh{}, api.ErrArg
	}
	a, b, c := m.Tris[t][k], m.Tris[t][(k+1)%3], m.Tris[t][(k+2)%3]
	if !between(m.Points[a], m.Points[b], p) {
		return api.Mesh{}, api.ErrMesh
	}
	n := len(m.Points)
	if n == 400 || len(m.Tris) > 898 {
		return api.Mesh{}, api.ErrLimit
	}
	out := cloned(m)
	out.Points = append(out.Points, p)
	out.Tris[t] = api.Tri{a, n, c}
	out.Tris = append(out.Tris, api.Tri{n, b, c})
	if u, j := find(m, b, a); u >= 0 {
		d := m.Tris[u][(j+2)%3]
		out.Tris[u] = api.Tri{b, n, d}
		out.Tris = append(out.Tris, api.Tri{n, a, d})
	}
	if i := segmentAt(m, a, b); i >= 0 {
		old := m.Segs[i]
		out.Segs[i] = api.Seg{A: old.A, B: n, Fixed: old.Fixed}
		out.Segs = append(out.Segs, api.Seg{A: n, B: old.B, Fixed: old.Fixed})
	}
	return out, api.OK
}

func random() *rand.Rand { return rand.New(rand.NewPCG(111, 112)) }

// fraction is a number of n bytes above the stroke and below it (less, if both can be cut), of either sign.
func fraction(r *rand.Rand, n int) *big.Rat {
	parts := [2][]byte{make([]byte, n), make([]byte, n)}
	for _, part := range parts {
		for i := range part {
			part[i] = byte(r.Uint32())
		}
		part[0] |= 0x80
	}
	x := new(big.Rat).SetFrac(new(big.Int).SetBytes(parts[0]), new(big.Int).SetBytes(parts[1]))
	if r.IntN(2) == 0 {
		x.Neg(x)
	}
	return x
}

// weighed is a point in between some, each of which counts by its weight.
func weighed(l []api.Point, weights ...int) api.Point {
	x, y, sum := new(big.Rat), new(big.Rat), 0
	for i, w := range weights {
		x, y = plus(x, times(bigOf(l[i].X), small(w, 1))), plus(y, times(bigOf(l[i].Y), small(w, 1)))
		sum += w
	}
	return api.Point{X: ratOf(times(x, small(1, sum))), Y: ratOf(times(y, small(1, sum)))}
}

// drawn is a mesh that is turned, drawn larger or smaller, and moved, all by numbers of n bytes.
func drawn(r *rand.Rand, m api.Mesh, n int) api.Mesh {
	c, d, moveX, moveY := fraction(r, n), fraction(r, n), fraction(r, n), fraction(r, n)
	out := cloned(m)
	for i, p := range m.Points {
		x, y := bigOf(p.X), bigOf(p.Y)
		out.Points[i].X = ratOf(plus(minus(times(c, x), times(d, y)), moveX))
		out.Points[i].Y = ratOf(plus(plus(times(d, x), times(c, y)), moveY))
	}
	return out
}

// corners are those of a triangle of a mesh, from its corner k on.
func corners(m api.Mesh, t, k int) []api.Point {
	tri := m.Tris[t]
	return []api.Point{m.Points[tri[k]], m.Points[tri[(k+1)%3]], m.Points[tri[(k+2)%3]]}
}

// grown is a mesh that has come of a square by random changes, as the words tell them, with a hole at times, and with some edges as segments.
func grown(r *rand.Rand, steps int) api.Mesh {
	m := square()
	for range steps {
		t, k := r.IntN(len(m.Tris)), r.IntN(3)
		next, e := api.Mesh{}, api.OK
		switch r.IntN(4) {
		case 0:
			next, e = wantSplit(m, t, weighed(corners(m, t, k), 1+r.IntN(3), 1+r.IntN(3), 1+r.IntN(3)))
		case 1:
			next, e = wantCut(m, t, k, weighed(corners(m, t, k), 1+r.IntN(3), 1+r.IntN(3)))
		default:
			next, e = wantFlip(m, t, k)
		}
		if e == api.OK {
			m = next
		}
	}
	for range steps / 6 {
		s := api.Seg{A: r.IntN(len(m.Points)), B: r.IntN(len(m.Points)), Fixed: r.IntN(2) == 0}
		if joined(m, s.A, s.B) && segmentAt(m, s.A, s.B) < 0 {
			m.Segs = append(m.Segs, s)
		}
	}
	if r.IntN(3) == 0 && len(m.Tris) > 4 {
		m.Tris = slices.Delete(m.Tris, 2, 3)
		m.Segs = slices.DeleteFunc(m.Segs, func(s api.Seg) bool { return !joined(m, s.A, s.B) })
	}
	return m
}

// square is that of the chapter's example.
func square() api.Mesh {
	return api.Mesh{Points: []api.Point{at(0, 0), at(2, 0), at(2, 2), at(0, 2)}, Tris: []api.Tri{{0, 1, 2}, {0, 2, 3}}}
}

// crowd is a mesh of points on a curve that turns to the left everywhere, and of triangles that lie on one another, no two of which have an edge in common: up to 900 with 399 points. Segments are their first edges.
func crowd(points, tris, segs int) api.Mesh {
	m := api.Mesh{}
	for i := range points {
		m.Points = append(m.Points, at(i, i*i))
	}
	for _, steps := range [][2]int{{1, 2}, {4, 5}, {6, 8}} {
		for i := 0; i+steps[0]+steps[1] < points && len(m.Tris) < tris; i++ {
			m.Tris = append(m.Tris, api.Tri{i, i + steps[0], i + steps[0] + steps[1]})
		}
	}
	for i := range segs {
		t, k := m.Tris[i/3], i%3
		m.Segs = append(m.Segs, api.Seg{A: t[(k+i%2)%3], B: t[(k+1-i%2)%3], Fixed: i%5 == 0})
	}
	return m
}
