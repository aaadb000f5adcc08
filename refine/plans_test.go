package refine_test

import (
	"math/rand/v2"
	"slices"
	"testing"

	"gusset/api"
	"gusset/carve"
	"gusset/cdt"
	"gusset/mesh"
	"gusset/rat"
	"gusset/well"
)

// draft is a plan that holds, of what can be put in one by one beside a frame: points, segments and holes.
func draft(r *rand.Rand, frame []api.Point, width, height int) api.Plan {
	p := api.Plan{Points: frame}
	for i := range p.F {
		p.F[i], p.G[i] = rat.Of(0), rat.Of(0)
	}
	for i := range frame {
		p.Segs = append(p.Segs, api.Seg{A: i, B: (i + 1) % len(frame), Fixed: r.IntN(2) == 0})
	}
	for range r.IntN(10) {
		next := p
		next.Points = append(slices.Clone(p.Points), at(r.IntN(width+1), r.IntN(height+1)))
		if well.Check(next) == api.OK {
			p = next
		}
	}
	for range 20 {
		next := p
		next.Segs = append(slices.Clone(p.Segs), api.Seg{A: r.IntN(len(p.Points)), B: r.IntN(len(p.Points)), Fixed: r.IntN(2) == 0})
		if well.Check(next) == api.OK {
			p = next
		}
	}
	for range r.IntN(3) {
		next := p
		next.Holes = append(slices.Clone(p.Holes), at(r.IntN(width), r.IntN(height)))
		if well.Check(next) == api.OK {
			p = next
		}
	}
	return p
}

// frame is a closed way that a plan may have round it, and about how wide and how high it is.
func frame(r *rand.Rand) ([]api.Point, int, int) {
	w, h := 8+r.IntN(25), 8+r.IntN(25)
	switch r.IntN(4) {
	case 0:
		return []api.Point{at(0, 0), at(w, 0), at(w, h/2), at(w/2, h/2), at(w/2, h), at(0, h)}, w, h
	case 1:
		return []api.Point{at(0, 3), at(w/2, 0), at(w, 2), at(w+2, h), at(w/2, h+3), at(-2, h)}, w, h
	}
	return []api.Point{at(0, 0), at(w, 0), at(w, h), at(0, h)}, w, h
}

// domain is what cdt and carve make of a plan, if something is left.
func domain(t *testing.T, p api.Plan) (api.Mesh, bool) {
	t.Helper()
	if e := well.Check(p); e != api.OK {
		t.Fatalf("a plan that does not hold: error %d", e)
	}
	m, e := cdt.Build(p.Points, p.Segs)
	if e != api.OK {
		t.Fatalf("no triangulation: error %d", e)
	}
	m, e = carve.Cut(m, p.Holes)
	return m, e == api.OK
}

// anyPlan is a plan and its domain.
func anyPlan(t *testing.T, r *rand.Rand) (api.Plan, api.Mesh) {
	t.Helper()
	for {
		l, w, h := frame(r)
		p := draft(r, l, w, h)
		if well.Check(p) != api.OK { // the frame itself
			continue
		}
		if m, found := domain(t, p); found {
			return p, m
		}
	}
}

// sizesOf are n sizes, about points of a mesh and beside them.
func sizesOf(r *rand.Rand, m api.Mesh, n int) []api.Size {
	out := []api.Size(nil)
	for range n {
		s := api.Size{Centre: m.Points[r.IntN(len(m.Points))], Within2: rat.Of(r.IntN(200)), Most2: ratOf(small(1+r.IntN(200), 1+r.IntN(8)))}
		if r.IntN(2) == 0 {
			s.Centre = at(r.IntN(30), r.IntN(30))
		}
		out = append(out, s)
	}
	return out
}

// picksOf are n picks of all kinds.
func picksOf(r *rand.Rand, n int) []int {
	out := []int(nil)
	for range n {
		out = append(out, int(r.Uint64())>>r.IntN(64))
	}
	return out
}

// heap is a mesh of triangles as they come, all of whose edges are segments: so it is tidy, if no two lie on one another. Points may have one place.
func heap(r *rand.Rand, n, grid, tries, most int) api.Mesh {
	m := api.Mesh{}
	for range n {
		m.Points = append(m.Points, at(r.IntN(grid), r.IntN(grid)))
	}
	for range tries {
		next := cloned(m)
		next.Tris = append(next.Tris, api.Tri{r.IntN(n), r.IntN(n), r.IntN(n)})
		if mesh.Check(next) == api.OK && len(next.Tris) <= most {
			m = next
		}
	}
	edges, _ := mesh.Edges(m)
	for _, e := range edges {
		m.Segs = append(m.Segs, api.Seg{A: e[1], B: e[0], Fixed: r.IntN(2) == 0})
	}
	return m
}

// pile is a heap that is tidy: triangles are taken that lie on none of the others, and whose angles are not below 45 degrees, if they are not to be sharp.
func pile(r *rand.Rand, n, grid, tries int, sharp bool) api.Mesh {
	m := heap(r, n, grid, 0, 0)
	l := places(m.Points)
	for range tries {
		t := api.Tri{r.IntN(n), r.IntN(n), r.IntN(n)}
		next := cloned(m)
		next.Tris = append(next.Tris, t)
		if mesh.Check(next) != api.OK || slices.ContainsFunc(m.Tris, func(u api.Tri) bool { return !apart(l, t, u) }) {
			continue
		}
		_, radius2 := circle(l[t[0]], l[t[1]], l[t[2]])
		if sharp || least(far(l[t[0]], l[t[1]]), far(l[t[1]], l[t[2]]), far(l[t[2]], l[t[0]])).Cmp(times(radius2, small(2, 1))) >= 0 {
			m = next
		}
	}
	edges, _ := mesh.Edges(m)
	for _, e := range edges {
		m.Segs = append(m.Segs, api.Seg{A: e[0], B: e[1], Fixed: r.IntN(2) == 0})
	}
	return m
}
