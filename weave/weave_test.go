package weave_test

import (
	"math/rand/v2"
	"slices"
	"testing"

	"gusset/api"
	"gusset/edge"
	"gusset/geom"
	"gusset/mesh"
	"gusset/rat"
	"gusset/weave"
)

func at(x, y int) api.Point { return api.Point{X: rat.Of(x), Y: rat.Of(y)} }

// hold holds what a web tells of its edges against its triangles; these are as great as they were.
func hold(t *testing.T, w *weave.Web, area api.Rat) {
	t.Helper()
	m := api.Mesh{Points: w.Points, Tris: w.Tris}
	if sum, e := mesh.Area2(m); sum != area || e != api.OK {
		t.Fatalf("the area %v, error %d, of %v", sum, e, w.Tris)
	}
	third := func(e edge.Edge) (int, int) { // the triangle with that edge, and its third corner
		for i, tri := range w.Tris {
			for k := range tri {
				if edge.Of(tri, k) == e {
					return i, edge.Facing(tri, k)
				}
			}
		}
		return -1, -1
	}
	for a := range w.Points {
		for b := range w.Points {
			e := edge.Edge{a, b}
			left, c := third(e)
			right, d := third(e.Back())
			if w.Has(e) != (max(left, right) >= 0) {
				t.Fatalf("Has of %v: %v", e, w.Has(e))
			}
			if u, found := w.Across(e); found != (right >= 0) || found && u != right {
				t.Fatalf("Across of %v: %d, %v, not %d", e, u, found, right)
			}
			if k, both := w.Kite(e); both != (min(left, right) >= 0) || both && k != (weave.Kite{A: a, B: b, C: c, D: d}) {
				t.Fatalf("Kite of %v: %v, %v", e, k, both)
			}
		}
	}
}

// square is a web of two triangles, and points that lie in it: within, on an edge at the rim, and on the diagonal.
func square() *weave.Web {
	return weave.Of(api.Mesh{
		Points: []api.Point{at(0, 0), at(8, 0), at(8, 8), at(0, 8), at(5, 1), at(3, 0), at(6, 6), at(1, 4)},
		Tris:   []api.Tri{{0, 1, 2}, {0, 2, 3}},
	})
}

// TestChanges puts points in, and turns edges there and back.
func TestChanges(t *testing.T) {
	w, area := square(), rat.Of(128)
	hold(t, w, area)
	w.Split(0, 4)
	hold(t, w, area)
	w.Cut(edge.Edge{0, 1}, 5)
	hold(t, w, area)
	w.Cut(edge.Edge{0, 2}, 6)
	hold(t, w, area)
	w.Split(slices.Index(w.Tris, api.Tri{0, 6, 3}), 7)
	hold(t, w, area)
	if want := 9; len(w.Tris) != want {
		t.Fatalf("%d triangles, not %d: %v", len(w.Tris), want, w.Tris)
	}
	w.Settle(-1)
	hold(t, w, area)
	if !w.Legal() {
		t.Errorf("settled, but not legal: %v", w.Tris)
	}
	for _, tri := range slices.Clone(w.Tris) {
		for k := range tri {
			kite, both := w.Kite(edge.Of(tri, k))
			if !both || !w.Convex(kite) {
				continue
			}
			w.Turn(kite)
			hold(t, w, area)
			back, _ := w.Kite(kite.Turned())
			if !w.Convex(back) {
				t.Fatalf("%v was turned, but cannot be turned back", kite)
			}
			w.Turn(back)
			hold(t, w, area)
		}
	}
}

// TestConvex holds Convex against how the diagonals meet.
func TestConvex(t *testing.T) {
	r := rand.New(rand.NewPCG(151, 152))
	for range 300 {
		l := []api.Point{at(0, 0), at(4, 0), at(r.IntN(11)-3, 1+r.IntN(4)), at(r.IntN(11)-3, -1-r.IntN(4))}
		w := weave.Of(api.Mesh{Points: l, Tris: []api.Tri{{0, 1, 2}, {1, 0, 3}}})
		k, _ := w.Kite(edge.Edge{0, 1})
		if how, _ := geom.Meet(l[0], l[1], l[2], l[3]); w.Convex(k) != (how == 1) {
			t.Errorf("%v: convex: %v, the diagonals meet: %d", l, w.Convex(k), how)
		}
	}
}

// slant is a web of a kite whose edge is to be turned, and of triangles at both its ends.
func slant(segs ...api.Seg) *weave.Web {
	return weave.Of(api.Mesh{
		Points: []api.Point{at(0, 0), at(9, 0), at(5, 1), at(5, -1)},
		Tris:   []api.Tri{{0, 1, 2}, {1, 0, 3}},
		Segs:   segs,
	})
}

// TestHeld holds that an edge that is held is not turned, in whichever way it was told; nor is one that was in no doubt, or whose end is known.
func TestHeld(t *testing.T) {
	w := slant()
	if w.Legal() || w.IsHeld(edge.Edge{0, 1}) {
		t.Errorf("legal: %v", w.Legal())
	}
	for _, known := range []int{0, 1} {
		w.Doubt(edge.Edge{0, 1}, edge.Edge{1, 0})
		w.Settle(known)
		if w.Settle(-1); !w.Has(edge.Edge{0, 1}) {
			t.Errorf("an edge at %d was turned", known)
		}
	}
	w.Doubt(edge.Edge{2, 3}, edge.Edge{0, 2}, edge.Edge{1, 0}, edge.Edge{1, 0})
	w.Settle(2)
	if !w.Has(edge.Edge{2, 3}) || w.Has(edge.Edge{0, 1}) || !w.Legal() {
		t.Errorf("not turned: %v", w.Tris)
	}
	for _, s := range []api.Seg{{A: 0, B: 1}, {A: 1, B: 0, Fixed: true}} {
		for _, e := range []edge.Edge{{0, 1}, {1, 0}} {
			w := slant(s)
			w.Doubt(e)
			w.Settle(-1)
			if !w.Has(e) || !w.IsHeld(e) || !w.Legal() {
				t.Errorf("%v is held, but was turned", e)
			}
			w = slant()
			w.Hold(e)
			if !w.IsHeld(edge.Edge{s.A, s.B}) || w.IsHeld(edge.Edge{0, 2}) || !w.Legal() {
				t.Errorf("%v is not held", e)
			}
		}
	}
}

// TestOwnMemory holds that a web does not change the mesh it came from.
func TestOwnMemory(t *testing.T) {
	m := api.Mesh{Points: []api.Point{at(0, 0), at(9, 0), at(5, 1), at(5, -1)}, Tris: []api.Tri{{0, 1, 2}, {1, 0, 3}}}
	w := weave.Of(m)
	w.Doubt(edge.Edge{0, 1})
	w.Settle(-1)
	w.Lay(api.Tri{7, 8, 9})
	clear(w.Points)
	if !slices.Equal(m.Points, slant().Points) || !slices.Equal(m.Tris, []api.Tri{{0, 1, 2}, {1, 0, 3}}) {
		t.Errorf("%v", m)
	}
}
