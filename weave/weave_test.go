package weave_test

import (
	"math/rand/v2"
	"slices"
	"testing"

	"gusset/api"
	"gusset/edge"
	"gusset/geom"
	"gusset/mesh"
	"gusset/rat"
	"gusset/weave"
)

func at(x, y int) api.Point { return api.Point{X: rat.Of(x), Y: rat.Of(y)} }

// hold holds what a web tells of its edges against its triangles; these are as great as they were.
func hold(t *testing.T, w *weave.Web, area api.Rat) {
	t.Helper()
	m := api.Mesh{Points: w.Points, Tris: w.Tris}
	if sum, e := mesh.Area2(m); sum != area || e != api.OK {
		t.Fatalf("the area %v, error %d, of %v", sum, e, w.Tris)
	}
	third := func(e edge.Edge) (int, int) { // the triangle with that edge, and its third corner
		for i, tri := range w.Tris {
			for k := range tri {
				if edge.Of(tri, k) == e {
					return i, edge.Facing(tri, k)
				}
			}
		}
		return -1, -1
	}
	for a := range w.Points {
		for b := range w.Points {
			e := edge.Edge{a, b}
			left, c := third(e)
			right, d := third(e.Back())
			if w.Has(e) != (max(left, right) >= 0) {
				t.Fatalf("Has of %v: %v", e, w.Has(e))
			}
			if u, found := w.Across(e); found != (right >= 0) || found && u != right {
				t.Fatalf("Across of %v: %d, %v, not %d", e, u, found, right)
			}
			if k, both := w.Kite(e); both != (min(left, right) >= 0) || both && k != (weave.Kite{A: a, B: b, C: c, D: d}) {
				t.Fatalf("Kite of %v: %v, %v", e, k, both)
			}
		}
	}
}

// square is a web of two triangles, and points that lie in it: within, on an edge at the rim, and on the diagonal.
func square() *weave.Web {
	return weave.Of(api.Mesh{
		Points: []api.Point{at(0, 0), at(8, 0), at(8, 8), at(0, 8), at(5, 1), at(3, 0), at(6, 6), at(1, 4)},
		Tris:   []api.Tri{{0, 1, 2}, {0, 2, 3}},
	})
}

// TestChanges puts points in, and turns edges there and back.
func TestChanges(t *testing.T) {
	w, area := square(), rat.Of(128)
	hold(t, w, area)
	w.Split(0, 4)
	hold(t, w, area)
	w.Cut(edge.Edge{0, 1}, 5)
	hold(t, w, area)
	w.Cut(edge.Edge{0, 2}, 6)
	hold(t, w, area)
	w.Split(slices.Index(w.Tris, api.Tri{0, 6, 3}), 7)
	hold(t, w, area)
	if want := 9; len(w.Tris) != want {
		t.Fatalf("%d triangles, not %d: %v", len(w.Tris), want, w.Tris)
	}
	w.Settle(-1)
	hold(t, w, area)
	if !w.Legal() {
		t.Errorf("settled, but not legal: %v", w.Tris)
	}
	for _, tri := range slices.Clone(w.Tris) {
		for k := range tri {
			kite, both := w.Kite(edge.Of(tri, k))
			if !both || !w.Convex(kite) {
				continue
			}
			w.Turn(kite)
			hold(t, w, area)
			back, _ := w.Kite(kite.Turned())
			if !w.Convex(back) {
				t.Fatalf("%v was turned, but cannot be turned back", kite)
			}
			w.Turn(back)
			hold(t, w, area)
		}
	}
}

// TestConvex holds Convex against how the diagonals meet.
func TestConvex(t *testing.T) {
	r := rand.New(rand.NewPCG(151, 152))
	for range 300 {
		l := []api.Point{at(0, 0), at(4, 0), at(r.IntN(11)-3, 1+r.IntN(4)), at(r.IntN(11)-3, -1-r.IntN(4))}
		w := weave.Of(api.Mesh{Points: l, Tris: []api.Tri{{0, 1, 2}, {1, 0, 3}}})
		k, _ := w.Kite(edge.Edge{0, 1})
		if how, _ := geom.Meet(l[0], l[1], l[2], l[3]); w.Convex(k) != (how == 1) {
			t.Errorf("%v: convex: %v, the diagonals meet: %d", l, w.Convex(k), how)
		}
	}
}

// slant is a web of a kite whose edge is to be turned, and of triangles at both its ends.
func slant(segs ...api.Seg) *weave.Web {
	return weave.Of(api.Mesh{
		Points: []api.Point{at(0, 0), at(9, 0), at(5, 1), at(5, -1)},
		Tris:   []api.Tri{{0, 1, 2}, {1, 0, 3}},
		Segs:   segs,
	})
}

// TestHeld holds that an edge that is held is not turned, in whichever way it was told; nor is one that was in no doubt, or whose end is known.
func TestHeld(t *testing.T) {
	w := slant()
	if w.Legal() || w.IsHeld(edge.Edge{0, 1}) {
		t.Errorf("legal: %v", w.Legal())
	}
	for _, known := range []int{0, 1} {
		w.Doubt(edge.Edge{0, 1}, edge.Edge{1, 0})
		w.Settle(known)
		if w.Settle(-1); !w.Has(edge.Edge{0, 1}) {
			t.Errorf("an edge at %d was turned", known)
		}
	}
	w.Doubt(edge.Edge{2, 3}, edge.Edge{0, 2}, edge.Edge{1, 0}, edge.Edge{1, 0})
	w.Settle(2)
	if !w.Has(edge.Edge{2, 3}) || w.Has(edge.Edge{0, 1}) || !w.Legal() {
		t.Errorf("not turned: %v", w.Tris)
	}
	for _, s := range []api.Seg{{A: 0, B: 1}, {A: 1, B: 0, Fixed: true}} {
		for _, e := range []edge.Edge{{0, 1}, {1, 0}} {
			w := slant(s)
			w.Doubt(e)
			w.Settle(-1)
			if !w.Has(e) || !w.IsHeld(e) || !w.Legal() {
				t.Errorf("%v is held, but was turned", e)
			}
			w = slant()
			w.Hold(e)
			if !w.IsHeld(edge.Edge{s.A, s.B}) || w.IsHeld(edge.Edge{0, 2}) || !w.Legal() {
				t.Errorf("%v is not held", e)
			}
		}
	}
}

// TestCutHeld holds that the parts of an edge that was held are held, whichever way it is told, in the midst and at the rim; and that those of another one are not.
func TestCutHeld(t *testing.T) {
	l := []api.Point{at(0, 0), at(8, 0), at(8, 8), at(0, 8), at(4, 4), at(4, 0)}
	for _, held := range [][]api.Seg{nil, {{A: 0, B: 1}, {A: 0, B: 2}}, {{A: 2, B: 0}, {A: 1, B: 0}}} {
		for _, back := range []bool{false, true} {
			w := weave.Of(api.Mesh{Points: l, Tris: []api.Tri{{0, 1, 2}, {0, 2, 3}}, Segs: held})
			for _, c := range []struct {
				e edge.Edge
				v int
			}{{edge.Edge{0, 2}, 4}, {edge.Edge{0, 1}, 5}} {
				if back {
					c.e = c.e.Back()
				}
				w.Cut(c.e, c.v)
				hold(t, w, rat.Of(128))
				want := held != nil
				if w.IsHeld(c.e) || w.IsHeld(edge.Edge{c.v, c.e[0]}) != want || w.IsHeld(edge.Edge{c.e[1], c.v}) != want {
					t.Errorf("%v was cut: held: %v, %v, %v", c.e, w.IsHeld(c.e), w.IsHeld(edge.Edge{c.v, c.e[0]}), w.IsHeld(edge.Edge{c.e[1], c.v}))
				}
			}
			if w.IsHeld(edge.Edge{1, 4}) || w.IsHeld(edge.Edge{3, 4}) {
				t.Errorf("other edges are held")
			}
		}
	}
}

// TestSeek looks for points from each triangle of a web with a wall in it: they are found where they lie, or it is told what is in the way.
func TestSeek(t *testing.T) {
	r := rand.New(rand.NewPCG(153, 154))
	seen := [3]int{} // within, on an edge, not found
	for range 40 {
		w := square()
		w.Split(0, 4)
		w.Cut(edge.Edge{0, 1}, 5)
		w.Cut(edge.Edge{0, 2}, 6)
		w.Hold(edge.Edge{6, 4})
		w.Hold(edge.Edge{4, 5})
		w.Settle(-1)
		for t0 := range w.Tris {
			p := at(r.IntN(11)-1, r.IntN(11)-1)
			i, k, blocked := w.Seek(t0, p)
			c := [3]api.Point{w.Points[w.Tris[i][0]], w.Points[w.Tris[i][1]], w.Points[w.Tris[i][2]]}
			where, _ := geom.Within(c[0], c[1], c[2], p)
			switch {
			case blocked:
				e := edge.Of(w.Tris[i], k)
				_, across := w.Across(e)
				side, _ := geom.Orient(w.Points[e[0]], w.Points[e[1]], p)
				if across && !w.IsHeld(e) || side != -1 {
					t.Errorf("%v is in the way from %d to %v", e, t0, p)
				}
				seen[2]++
			case k >= 0:
				on, _ := geom.On(c[k], c[(k+1)%3], p)
				if !on || where != 0 {
					t.Errorf("%v is not on the edge %d of %v", p, k, c)
				}
				seen[1]++
			default:
				if where != 1 {
					t.Errorf("%v is not within %v", p, c)
				}
				seen[0]++
			}
		}
	}
	if min(seen[0], seen[1], seen[2]) < 20 {
		t.Errorf("within, on an edge, not found: %v", seen)
	}
}

// TestWall looks for a point from the other side of an edge: if that is held, in whichever way it was told, it is in the way.
func TestWall(t *testing.T) {
	for _, segs := range [][]api.Seg{nil, {{A: 0, B: 1}}, {{A: 1, B: 0}}} {
		w := slant(segs...)
		i, k, blocked := w.Seek(0, api.Point{X: rat.Of(5), Y: api.Rat{Num: api.Int{Neg: true, Mag: "\x01"}, Den: "\x02"}})
		if want := segs != nil; blocked != want || want && (i != 0 || k != 0) || !want && (i != 1 || k != -1) {
			t.Errorf("%v: %d, %d, in the way: %v", segs, i, k, blocked)
		}
	}
}

// TestPut puts points in where they are found, all over a square: it stays legal.
func TestPut(t *testing.T) {
	r := rand.New(rand.NewPCG(155, 156))
	for range 20 {
		w := weave.Of(api.Mesh{Points: []api.Point{at(0, 0), at(8, 0), at(8, 8), at(0, 8)}, Tris: []api.Tri{{0, 1, 2}, {0, 2, 3}}, Segs: []api.Seg{{A: 0, B: 2}}})
		for range 15 {
			p := at(r.IntN(9), r.IntN(9))
			if slices.Contains(w.Points, p) {
				continue
			}
			i, k, blocked := w.Seek(r.IntN(len(w.Tris)), p)
			if blocked {
				continue
			}
			w.Points = append(w.Points, p)
			w.Put(len(w.Points)-1, i, k)
			hold(t, w, rat.Of(128))
			if !w.Legal() {
				t.Fatalf("not legal: %v", w.Tris)
			}
		}
	}
}

// TestCopy holds that what is done to a copy is not done to the web, and the other way round.
func TestCopy(t *testing.T) {
	for _, turnCopy := range []bool{false, true} {
		one := slant()
		other := one.Copy()
		if turnCopy {
			one, other = other, one
		}
		one.Doubt(edge.Edge{0, 1})
		one.Settle(-1)
		one.Hold(edge.Edge{0, 2})
		one.Points[0] = at(-1, 0)
		if !one.Has(edge.Edge{2, 3}) || other.Has(edge.Edge{2, 3}) || other.IsHeld(edge.Edge{0, 2}) || other.Points[0] != at(0, 0) || other.Legal() {
			t.Errorf("a web and its copy hang together")
		}
		hold(t, other, rat.Of(18))
	}
}

// TestOwnMemory holds that a web does not change the mesh it came from.
func TestOwnMemory(t *testing.T) {
	m := api.Mesh{Points: []api.Point{at(0, 0), at(9, 0), at(5, 1), at(5, -1)}, Tris: []api.Tri{{0, 1, 2}, {1, 0, 3}}}
	w := weave.Of(m)
	w.Doubt(edge.Edge{0, 1})
	w.Settle(-1)
	w.Lay(api.Tri{7, 8, 9})
	clear(w.Points)
	if !slices.Equal(m.Points, slant().Points) || !slices.Equal(m.Tris, []api.Tri{{0, 1, 2}, {1, 0, 3}}) {
		t.Errorf("%v", m)
	}
}
