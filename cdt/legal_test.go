package cdt_test

import (
	"math/rand/v2"
	"slices"
	"testing"

	"gusset/api"
	"gusset/cdt"
	"gusset/hull"
	"gusset/mesh"
)

// holdLegal holds Legal against the words, for a mesh that may be. It tells the answer.
func holdLegal(t *testing.T, m api.Mesh) bool {
	t.Helper()
	legal, e := cdt.Legal(m)
	if want := wantLegal(m); legal != want || e != api.OK {
		t.Fatalf("P14.2: %v, error %d, not %v: %v, %v, %v", legal, e, want, places(m.Points), m.Tris, m.Segs)
	}
	return legal
}

// shaken is a triangulation some of whose edges were flipped, some triangles of which were left out, and some edges of which are segments.
func shaken(r *rand.Rand, l []api.Point, flips, out, segs int) api.Mesh {
	m, e := hull.Build(l)
	if e != api.OK {
		return api.Mesh{}
	}
	for range flips {
		if next, e := mesh.Flip(m, r.IntN(len(m.Tris)), r.IntN(3)); e == api.OK {
			m = next
		}
	}
	m.Tris = m.Tris[:max(1, len(m.Tris)-out)]
	for range segs {
		t, k := m.Tris[r.IntN(len(m.Tris))], r.IntN(3)
		if a, b := t[k], t[(k+1+r.IntN(2))%3]; !isSeg(m.Segs, a, b) {
			m.Segs = append(m.Segs, api.Seg{A: a, B: b, Fixed: r.IntN(2) == 0})
		}
	}
	return m
}

// TestLegal asks about triangulations with flipped edges, and with some of these as segments.
func TestLegal(t *testing.T) {
	r := random()
	done := [2]int{}
	for i := range 500 {
		l := scatter(r, 4+i%12, 2+r.IntN(6), 2+r.IntN(6))
		m := shaken(r, l, i%4*3, i%3, r.IntN(9))
		if holdLegal(t, m) {
			done[0]++
		} else {
			done[1]++
		}
		if i%50 == 0 && len(m.Points) > 0 {
			m.Points = drawn(r, m.Points, 1+i/20)
			holdLegal(t, m)
		}
	}
	if min(done[0], done[1]) < 100 {
		t.Errorf("legal or not: %v", done)
	}
}

// kite is a mesh of two triangles over the edge 0 1, with c to the left of it and d to the right.
func kite(c, d api.Point, segs ...api.Seg) api.Mesh {
	return api.Mesh{Points: []api.Point{at(0, 0), at(4, 0), c, d}, Tris: []api.Tri{{0, 1, 2}, {1, 0, 3}}, Segs: segs}
}

// TestLegalEdges asks about one edge: corners across on the circle, within and outside; kites that are not convex; segments in either way, on it or elsewhere; triangles that have no edge in common, though they lie on one another.
func TestLegalEdges(t *testing.T) {
	for i, c := range []struct {
		m    api.Mesh
		want bool
	}{
		{kite(at(2, 2), at(2, -2)), true}, {kite(at(2, 2), at(2, -1)), false}, {kite(at(2, 2), at(2, -3)), true}, {kite(at(2, 1), at(2, -3)), false}, {kite(at(2, 1), at(2, -4)), true},
		{kite(at(2, 1), at(2, -4), api.Seg{A: 0, B: 1}), true}, {kite(at(2, 1), at(2, -3), api.Seg{A: 0, B: 1}), true}, {kite(at(2, 1), at(2, -3), api.Seg{A: 1, B: 0, Fixed: true}), true},
		{kite(at(2, 1), at(2, -3), api.Seg{A: 1, B: 2}, api.Seg{A: 2, B: 0}, api.Seg{A: 0, B: 3}, api.Seg{A: 3, B: 1}), false},
		{kite(at(9, 1), at(9, -1)), true}, {kite(at(-9, 2), at(-1, -1)), true},
		{api.Mesh{}, true}, {api.Mesh{Points: []api.Point{at(0, 0)}}, true},
		{api.Mesh{Points: []api.Point{at(0, 0), at(4, 0), at(0, 4), at(1, 1), at(2, 1), at(1, 2)}, Tris: []api.Tri{{0, 1, 2}, {3, 4, 5}}}, true},
		{api.Mesh{Points: []api.Point{at(0, 0), at(4, 0), at(2, 1), at(2, -1), at(1, -1), at(3, 0), at(1, 1)}, Tris: []api.Tri{{0, 1, 2}, {4, 5, 6}, {1, 0, 3}}}, false},
	} {
		if legal := holdLegal(t, c.m); legal != c.want {
			t.Errorf("P14.2: case %d: %v", i, legal)
		}
		slices.Reverse(c.m.Tris)
		holdLegal(t, c.m)
	}
}

// TestWithout asks for a mesh without segments: it is one that hull.Build could have made.
func TestWithout(t *testing.T) {
	r := random()
	for i := range 20 {
		l := scatter(r, 4+i, 6, 6)
		m, e := cdt.Build(l, nil)
		if _, want := hull.Build(l); e != want {
			t.Errorf("P14.3: error %d, not %d", e, want)
		}
		all := places(l)
		for _, v := range m.Tris {
			centre, radius := circle(all[v[0]], all[v[1]], all[v[2]])
			if slices.ContainsFunc(all, func(p place) bool { return far(centre, p).Cmp(radius) < 0 }) {
				t.Errorf("P14.3: a point lies within the circle of %v", v)
			}
		}
	}
}
