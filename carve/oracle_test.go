package carve_test

import (
	"math/big"
	"math/rand/v2"
	"slices"

	"gusset/api"
	"gusset/cdt"
	"gusset/mesh"
	"gusset/rat"
)

// What the answers are held against: the library's numbers, and the chapter's words one by one, asked of all that there is.

func at(x, y int) api.Point { return api.Point{X: rat.Of(x), Y: rat.Of(y)} }

// ratOf is a number of the library as a Rat, bigOf the other way.
func ratOf(x *big.Rat) api.Rat {
	num := api.Int{Neg: x.Sign() < 0, Mag: api.Nat(x.Num().Bytes())}
	return api.Rat{Num: num, Den: api.Nat(x.Denom().Bytes())}
}

func bigOf(a api.Rat) *big.Rat {
	x := new(big.Rat).SetFrac(new(big.Int).SetBytes([]byte(a.Num.Mag)), new(big.Int).SetBytes([]byte(a.Den)))
	if a.Num.Neg {
		x.Neg(x)
	}
	return x
}

func times(x *big.Rat, y *big.Rat) *big.Rat { return new(big.Rat).Mul(x, y) }
func plus(x *big.Rat, y *big.Rat) *big.Rat  { return new(big.Rat).Add(x, y) }
func minus(x *big.Rat, y *big.Rat) *big.Rat { return new(big.Rat).Sub(x, y) }

// half is the point whose numbers are the halves of these.
func half(x, y int) api.Point {
	return api.Point{X: ratOf(big.NewRat(int64(x), 2)), Y: ratOf(big.NewRat(int64(y), 2))}
}

// turn is how three points turn.
func turn(a, b, c api.Point) int {
	ax, ay := bigOf(a.X), bigOf(a.Y)
	return minus(times(minus(bigOf(b.X), ax), minus(bigOf(c.Y), ay)), times(minus(bigOf(c.X), ax), minus(bigOf(b.Y), ay))).Sign()
}

// find is the triangle that has an edge from a to b; -1, if there is none.
func find(m api.Mesh, a, b int) int {
	for i, t := range m.Tris {
		for k := range 3 {
			if t[k] == a && t[(k+1)%3] == b {
				return i
			}
		}
	}
	return -1
}

// segment is the number of the segment with the ends a and b; -1, if there is none.
func segment(m api.Mesh, a, b int) int {
	return slices.IndexFunc(m.Segs, func(s api.Seg) bool { return s.A == a && s.B == b || s.A == b && s.B == a })
}

// beside are the triangles across from a triangle's edges, over segments or not; -1, where there is none.
func beside(m api.Mesh, t int, overSegs bool) []int {
	out := []int(nil)
	for k := range 3 {
		a, b := m.Tris[t][k], m.Tris[t][(k+1)%3]
		if overSegs || segment(m, a, b) < 0 {
			out = append(out, find(m, b, a))
		}
	}
	return out
}

// spread gives each triangle the least number of those beside it, until nothing changes.
func spread(m api.Mesh, numbers []int, overSegs bool) {
	for changed := true; changed; {
		changed = false
		for t := range m.Tris {
			for _, u := range beside(m, t, overSegs) {
				if u >= 0 && numbers[u] < numbers[t] {
					numbers[t], changed = numbers[u], true
				}
			}
		}
	}
}

// wantCut cuts a mesh that may be, with holes that may be asked.
func wantCut(m api.Mesh, holes []api.Point) (api.Mesh, api.Errno) {
	kept := slices.Repeat([]int{1}, len(m.Tris))
	for i, t := range m.Tris {
		if slices.Contains(beside(m, i, false), -1) {
			kept[i] = 0
		}
		for _, p := range holes {
			a, b, c := m.Points[t[0]], m.Points[t[1]], m.Points[t[2]]
			if min(turn(a, b, p), turn(b, c, p), turn(c, a, p)) >= 0 {
				kept[i] = 0
			}
		}
	}
	spread(m, kept, false)
	left := api.Mesh{}
	for i, t := range m.Tris {
		if kept[i] > 0 {
			left.Tris = append(left.Tris, t)
		}
	}
	if len(left.Tris) == 0 {
		return api.Mesh{}, api.ErrEmpty
	}
	for _, s := range m.Segs {
		if find(left, s.A, s.B) >= 0 || find(left, s.B, s.A) >= 0 {
			left.Segs = append(left.Segs, s)
		}
	}
	return renumbered(left, m.Points), api.OK
}

// renumbered takes of the points those that are corners.
func renumbered(m api.Mesh, points []api.Point) api.Mesh {
	numbers := map[int]int{}
	for v, p := range points {
		if slices.ContainsFunc(m.Tris, func(t api.Tri) bool { return slices.Contains(t[:], v) }) {
			numbers[v] = len(m.Points)
			m.Points = append(m.Points, p)
		}
	}
	for i, t := range m.Tris {
		m.Tris[i] = api.Tri{numbers[t[0]], numbers[t[1]], numbers[t[2]]}
	}
	for i, s := range m.Segs {
		m.Segs[i].A, m.Segs[i].B = numbers[s.A], numbers[s.B]
	}
	return m
}

// wantParts tells the parts of a mesh that may be.
func wantParts(m api.Mesh) []int {
	first := []int(nil)
	for i := range m.Tris {
		first = append(first, i)
	}
	spread(m, first, true)
	roots, out := []int(nil), []int(nil)
	for _, root := range first {
		if !slices.Contains(roots, root) {
			roots = append(roots, root)
		}
		out = append(out, slices.Index(roots, root))
	}
	return out
}

// wantReady asks each part for a Fixed segment.
func wantReady(m api.Mesh) api.Errno {
	parts := wantParts(m)
	for _, part := range parts {
		ready := false
		for i, t := range m.Tris {
			for k := range 3 {
				s := segment(m, t[k], t[(k+1)%3])
				ready = ready || parts[i] == part && s >= 0 && m.Segs[s].Fixed
			}
		}
		if !ready {
			return api.ErrFree
		}
	}
	return api.OK
}

func same(a, b api.Mesh) bool {
	return slices.Equal(a.Points, b.Points) && slices.Equal(a.Tris, b.Tris) && slices.Equal(a.Segs, b.Segs)
}

func cloned(m api.Mesh) api.Mesh {
	return api.Mesh{Points: slices.Clone(m.Points), Tris: slices.Clone(m.Tris), Segs: slices.Clone(m.Segs)}
}

func random() *rand.Rand { return rand.New(rand.NewPCG(151, 152)) }

// scatter is n points of a grid, no two of them one.
func scatter(r *rand.Rand, n, columns, rows int) []api.Point {
	out := []api.Point(nil)
	for _, i := range r.Perm(columns * rows)[:min(n, columns*rows)] {
		out = append(out, at(i%columns, i/columns))
	}
	return out
}

// woven is a triangulation of points of a grid, with segments: such that can be laid, tried at random.
func woven(r *rand.Rand, n, tries int) api.Mesh {
	l, segs := scatter(r, n, 3+r.IntN(6), 3+r.IntN(6)), []api.Seg(nil)
	m, _ := cdt.Build(l, nil)
	for range tries {
		s := api.Seg{A: r.IntN(len(l)), B: r.IntN(len(l)), Fixed: r.IntN(3) == 0}
		if next, e := cdt.Build(l, append(slices.Clone(segs), s)); e == api.OK {
			m, segs = next, append(segs, s)
		}
	}
	return m
}

// fenced is a mesh in which most of the edges with nothing across are segments, and some of the others.
func fenced(r *rand.Rand, m api.Mesh, gaps, walls int) api.Mesh {
	m = cloned(m)
	edges, _ := mesh.Edges(m)
	for _, e := range edges {
		inner := find(m, e[0], e[1]) >= 0 && find(m, e[1], e[0]) >= 0
		if segment(m, e[0], e[1]) >= 0 || !inner && r.IntN(gaps) == 0 || inner && r.IntN(walls) != 0 {
			continue
		}
		if r.IntN(2) == 0 {
			e[0], e[1] = e[1], e[0]
		}
		m.Segs = append(m.Segs, api.Seg{A: e[0], B: e[1], Fixed: r.IntN(3) == 0})
	}
	return m
}

// heap is a mesh of triangles that lie on one another, as they come.
func heap(r *rand.Rand, n, tries int) api.Mesh {
	m := api.Mesh{Points: scatter(r, n, 5, 5)}
	for range tries {
		next := cloned(m)
		next.Tris = append(next.Tris, api.Tri{r.IntN(n), r.IntN(n), r.IntN(n)})
		if mesh.Check(next) == api.OK {
			m = next
		}
	}
	return m
}
