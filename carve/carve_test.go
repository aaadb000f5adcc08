package carve_test

import (
	"math/rand/v2"
	"slices"
	"testing"

	"gusset/api"
	"gusset/carve"
	"gusset/cdt"
	"gusset/mesh"
)

// hold holds all calls against the words, for a mesh that may be. It tells how much is left.
func hold(t *testing.T, m api.Mesh, holes []api.Point) int {
	t.Helper()
	if e := mesh.Check(m); e != api.OK {
		t.Fatalf("a mesh that may not be: error %d", e)
	}
	want, wantError := wantCut(m, holes)
	got, e := carve.Cut(m, holes)
	if !same(got, want) || e != wantError {
		t.Fatalf("P15.1: %v, error %d, not %v, %d: of %v, %v", got, e, want, wantError, m, holes)
	}
	if parts, e := carve.Parts(m); !slices.Equal(parts, wantParts(m)) || e != api.OK {
		t.Fatalf("P15.2: %v, error %d, not %v: of %v", parts, e, wantParts(m), m)
	}
	if e := carve.Ready(m); e != wantReady(m) {
		t.Fatalf("P15.2: error %d, not %d: of %v", e, wantReady(m), m)
	}
	return len(got.Tris)
}

// somewhere are points on a grid of halves: within triangles, on edges, on corners and outside.
func somewhere(r *rand.Rand, n int) []api.Point {
	out := []api.Point(nil)
	for range n {
		out = append(out, half(r.IntN(20)-2, r.IntN(20)-2))
	}
	return out
}

// TestWoven asks about triangulations with more or fewer segments, and holes.
func TestWoven(t *testing.T) {
	r := random()
	left := [3]int{} // nothing, something, all
	ready := map[api.Errno]int{}
	for i := range 400 {
		m := fenced(r, woven(r, 4+i%16, i%7), 2+r.IntN(20), 1+r.IntN(9))
		if i%3 == 0 { // a single one that may be Fixed
			for k := range m.Segs {
				m.Segs[k].Fixed = k == 0 && i%2 == 0
			}
		}
		ready[carve.Ready(m)]++
		switch n := hold(t, m, somewhere(r, r.IntN(3))); n {
		case 0:
			left[0]++
		case len(m.Tris):
			left[2]++
		default:
			left[1]++
		}
	}
	if min(left[0], left[1], left[2], ready[api.OK], ready[api.ErrFree]) < 50 {
		t.Errorf("nothing, something, all: %v; ready or not: %v", left, ready)
	}
}

// TestHeaps asks about triangles that lie on one another, and hang together anyhow.
func TestHeaps(t *testing.T) {
	r := random()
	left, parts := 0, 0
	for i := range 300 {
		m := fenced(r, heap(r, 4+i%6, 10+i%60), 2+r.IntN(200), 1+r.IntN(9))
		left += min(hold(t, m, somewhere(r, r.IntN(2))), 1)
		if l, _ := carve.Parts(m); len(l) > 0 && slices.Max(l) > 0 {
			parts++
		}
	}
	if left < 50 || parts < 50 {
		t.Errorf("left something: %d; of more than one part: %d", left, parts)
	}
}

// square is one of two triangles, its sides segments.
func square(more ...api.Seg) api.Mesh {
	return api.Mesh{
		Points: []api.Point{at(0, 0), at(2, 0), at(2, 2), at(0, 2)},
		Tris:   []api.Tri{{0, 1, 2}, {0, 2, 3}},
		Segs:   append([]api.Seg{{A: 0, B: 1, Fixed: true}, {A: 1, B: 2}, {A: 2, B: 3}, {A: 3, B: 0}}, more...),
	}
}

// TestExample is the chapter's: all is left of a square, and nothing where a side is no segment.
func TestExample(t *testing.T) {
	if m, e := carve.Cut(square(), nil); !same(m, square()) || e != api.OK {
		t.Errorf("P15.1: %v, error %d", m, e)
	}
	for i := range 4 {
		m := square()
		m.Segs = slices.Delete(m.Segs, i, i+1)
		if left, e := carve.Cut(m, nil); !same(left, api.Mesh{}) || e != api.ErrEmpty {
			t.Errorf("P15.1: %v, error %d", left, e)
		}
	}
}

// TestPlaces puts a hole within a triangle, on its edges, on its corners and beside it; a segment along the diagonal keeps the other triangle, where the hole is not in that, too.
func TestPlaces(t *testing.T) {
	for i, c := range []struct {
		hole api.Point
		left []int // the triangles
	}{
		{half(3, 1), []int{1}}, {half(1, 3), []int{0}}, {half(2, 0), []int{1}}, {half(0, 3), []int{0}},
		{half(2, 2), nil}, {at(0, 0), nil}, {at(2, 2), nil}, {at(2, 0), []int{1}}, {at(0, 2), []int{0}},
		{half(-1, 0), []int{0, 1}}, {half(5, 5), []int{0, 1}}, {half(4, -1), []int{0, 1}},
	} {
		parted := square(api.Seg{A: 2, B: 0})
		hold(t, parted, []api.Point{c.hole})
		if m, _ := carve.Cut(parted, []api.Point{c.hole}); len(m.Tris) != len(c.left) {
			t.Errorf("P15.1: case %d: %v", i, m)
		}
		whole := hold(t, square(), []api.Point{c.hole})
		if want := len(c.left) / 2 * 2; whole != want {
			t.Errorf("P15.1: case %d, without the diagonal: %d left", i, whole)
		}
	}
}

// TestNumbers holds what comes where triangles in the midst go: the order of points, of triangles, of their corners, of segments and their ends, and what is Fixed.
func TestNumbers(t *testing.T) {
	m := api.Mesh{
		Points: []api.Point{at(9, 9), at(4, 0), at(2, 1), at(0, 0), at(4, 4), at(0, 4), at(7, 7)},
		Tris:   []api.Tri{{2, 3, 1}, {1, 4, 2}, {5, 3, 2}, {2, 4, 5}},
		Segs:   []api.Seg{{A: 4, B: 1}, {A: 3, B: 5, Fixed: true}, {A: 2, B: 4}, {A: 2, B: 1, Fixed: true}, {A: 1, B: 3}, {A: 4, B: 5}, {A: 5, B: 2}, {A: 3, B: 2, Fixed: true}},
	}
	want := api.Mesh{
		Points: []api.Point{at(4, 0), at(2, 1), at(0, 0), at(4, 4), at(0, 4)},
		Tris:   []api.Tri{{1, 2, 0}, {1, 3, 4}},
		Segs:   []api.Seg{{A: 1, B: 3}, {A: 1, B: 0, Fixed: true}, {A: 0, B: 2}, {A: 3, B: 4}, {A: 4, B: 1}, {A: 2, B: 1, Fixed: true}},
	}
	holes := []api.Point{half(7, 3), half(1, 4)}
	hold(t, m, holes)
	if left, e := carve.Cut(m, holes); !same(left, want) || e != api.OK {
		t.Errorf("P15.1: %v, error %d", left, e)
	}
}

// TestParts asks about parts that come by turns, that touch in a corner, and that lie on one another.
func TestParts(t *testing.T) {
	m := api.Mesh{
		Points: []api.Point{at(0, 0), at(1, 0), at(1, 1), at(0, 1), at(2, 2), at(1, 2)},
		Tris:   []api.Tri{{2, 4, 5}, {0, 1, 2}, {3, 1, 5}, {2, 3, 0}},
		Segs:   []api.Seg{{A: 4, B: 2, Fixed: true}, {A: 1, B: 0, Fixed: true}},
	}
	hold(t, m, nil)
	if l, e := carve.Parts(m); !slices.Equal(l, []int{0, 1, 2, 1}) || e != api.OK {
		t.Errorf("P15.2: %v, error %d", l, e)
	}
	if e := carve.Ready(m); e != api.ErrFree {
		t.Errorf("P15.2: error %d", e)
	}
	m.Segs = append(m.Segs, api.Seg{A: 5, B: 3, Fixed: true})
	if e := carve.Ready(m); e != api.OK {
		t.Errorf("P15.2: error %d", e)
	}
	for i := range m.Segs {
		free := cloned(m)
		free.Segs[i].Fixed = false
		if e := carve.Ready(free); e != api.ErrFree {
			t.Errorf("P15.2: without %d: error %d", i, e)
		}
	}
}

// TestNothing asks about a mesh without triangles.
func TestNothing(t *testing.T) {
	for _, m := range []api.Mesh{{}, {Points: []api.Point{at(0, 0), at(1, 1)}}} {
		if left, e := carve.Cut(m, nil); !same(left, api.Mesh{}) || e != api.ErrEmpty {
			t.Errorf("P15.1: %v, error %d", left, e)
		}
		if l, e := carve.Parts(m); len(l) != 0 || e != api.OK {
			t.Errorf("P15.2: %v, error %d", l, e)
		}
		if e := carve.Ready(m); e != api.OK {
			t.Errorf("P15.2: error %d", e)
		}
	}
}

// TestLaws holds what follows: cut again, nothing more goes; more holes leave less.
func TestLaws(t *testing.T) {
	r := random()
	done := 0
	for i := range 150 {
		m := fenced(r, woven(r, 6+i%16, i%7), 100, 1+r.IntN(4))
		holes := somewhere(r, 3)
		last, e := carve.Cut(m, nil)
		if e != api.OK {
			continue
		}
		if again, e := carve.Cut(last, nil); !same(again, last) || e != api.OK {
			t.Errorf("P15.3: cut again: %v, error %d, not %v", again, e, last)
		}
		for n := range holes {
			next, e := carve.Cut(m, holes[:n+1])
			if e != api.OK {
				break
			}
			if again, e := carve.Cut(next, nil); !same(again, next) || e != api.OK || mesh.Check(next) != api.OK {
				t.Errorf("P15.3: cut again: %v, error %d, not %v", again, e, next)
			}
			for _, tri := range next.Tris {
				corners := [3]api.Point{next.Points[tri[0]], next.Points[tri[1]], next.Points[tri[2]]}
				if !slices.ContainsFunc(last.Tris, func(u api.Tri) bool {
					return corners == [3]api.Point{last.Points[u[0]], last.Points[u[1]], last.Points[u[2]]}
				}) {
					t.Errorf("P15.3: more holes leave the triangle %v more", corners)
				}
			}
			last = next
			done++
		}
	}
	if done < 100 {
		t.Errorf("%d cuts", done)
	}
}

// TestMost asks about as many points and triangles as a triangulation may have, with 1121 segments, and with a long way through them.
func TestMost(t *testing.T) {
	l := []api.Point(nil)
	for i := range 400 {
		l = append(l, at(i%20, i/20))
	}
	m, _ := cdt.Build(l, nil)
	all := fenced(random(), m, 1<<30, 1)
	if n := hold(t, all, []api.Point{half(1, 1), half(37, 20)}); n != 718 || len(all.Tris) != 722 || len(all.Segs) != 1121 {
		t.Errorf("P15.1: %d of %d triangles, %d segments", n, len(all.Tris), len(all.Segs))
	}
	rim := fenced(random(), m, 1<<30, 1<<30)
	if left, e := carve.Cut(rim, []api.Point{half(1, 1)}); e != api.ErrEmpty {
		t.Errorf("P15.1: %d triangles, error %d", len(left.Tris), e)
	}
	if left, e := carve.Cut(rim, nil); !same(left, rim) || e != api.OK {
		t.Errorf("P15.1: %d triangles, error %d", len(left.Tris), e)
	}
	if parts, e := carve.Parts(all); len(parts) != 722 || slices.Max(parts) != 0 || e != api.OK {
		t.Errorf("P15.2: %v, error %d", parts, e)
	}
}
