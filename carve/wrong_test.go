package carve_test

import (
	"slices"
	"strings"
	"testing"

	"gusset/api"
	"gusset/carve"
	"gusset/rat"
	"gusset/whole"
)

// wrongPoint is one that may not be asked.
type wrongPoint struct {
	p api.Point
	e api.Errno
}

// wrongPoints are such: too long, not in their one form, and both.
func wrongPoints() []wrongPoint {
	good, uncut := rat.Of(1), api.Rat{Num: whole.Of(2), Den: "\x04"}
	long := api.Rat{Num: whole.Of(1), Den: api.Nat(strings.Repeat("\x01", 101))}
	return []wrongPoint{
		{api.Point{X: long, Y: good}, api.ErrLimit}, {api.Point{X: good, Y: long}, api.ErrLimit}, {api.Point{X: uncut, Y: long}, api.ErrLimit},
		{api.Point{}, api.ErrArg}, {api.Point{X: good}, api.ErrArg}, {api.Point{X: uncut, Y: good}, api.ErrArg},
	}
}

// holdWrong holds that all calls tell the mesh's error, ahead of a hole's, and nothing else.
func holdWrong(t *testing.T, name string, m api.Mesh, want api.Errno) {
	t.Helper()
	for _, holes := range [][]api.Point{nil, {{}}, {at(1, 1)}} {
		if left, e := carve.Cut(m, holes); e != want || !same(left, api.Mesh{}) {
			t.Errorf("P15.1: %s: %v, error %d, not %d", name, left, e, want)
		}
	}
	if l, e := carve.Parts(m); e != want || len(l) != 0 {
		t.Errorf("P15.2: %s: %v, error %d, not %d", name, l, e, want)
	}
	if e := carve.Ready(m); e != want {
		t.Errorf("P15.2: %s: error %d, not %d", name, e, want)
	}
}

// TestWrongMesh asks about meshes that may not be.
func TestWrongMesh(t *testing.T) {
	for name, c := range map[string]struct {
		spoil func(m *api.Mesh)
		want  api.Errno
	}{
		"401 points":                     {func(m *api.Mesh) { m.Points = append(m.Points, make([]api.Point, 397)...) }, api.ErrLimit},
		"901 triangles":                  {func(m *api.Mesh) { m.Tris = append(m.Tris, make([]api.Tri, 899)...) }, api.ErrLimit},
		"1301 segments":                  {func(m *api.Mesh) { m.Segs = append(m.Segs, make([]api.Seg, 1297)...) }, api.ErrLimit},
		"a triangle to the right":        {func(m *api.Mesh) { m.Tris[1] = api.Tri{0, 3, 2} }, api.ErrMesh},
		"a corner that is none":          {func(m *api.Mesh) { m.Tris[0][2] = 4 }, api.ErrMesh},
		"the same triangle twice":        {func(m *api.Mesh) { m.Tris[1] = m.Tris[0] }, api.ErrMesh},
		"the same segment twice":         {func(m *api.Mesh) { m.Segs[1] = api.Seg{A: 1, B: 0} }, api.ErrMesh},
		"a segment that is no edge":      {func(m *api.Mesh) { m.Segs[1] = api.Seg{A: 1, B: 3} }, api.ErrMesh},
		"a segment's end that is none":   {func(m *api.Mesh) { m.Segs[1].B = -1 }, api.ErrMesh},
		"a point that may not be asked":  {func(m *api.Mesh) { m.Points[3].X = api.Rat{} }, api.ErrArg},
		"a point too long, and no edges": {func(m *api.Mesh) { m.Points[2], m.Tris[0][0] = wrongPoints()[2].p, 9 }, api.ErrLimit},
	} {
		m := square()
		c.spoil(&m)
		holdWrong(t, name, m, c.want)
	}
}

// TestWrongHoles puts holes that may not be asked in every place: the first one's error is told, ahead of ErrEmpty.
func TestWrongHoles(t *testing.T) {
	for _, w := range wrongPoints() {
		for _, other := range wrongPoints() {
			for first := range 3 {
				holes := slices.Repeat([]api.Point{at(1, 1)}, 3)
				holes[2] = other.p
				holes[first] = w.p
				for _, m := range []api.Mesh{square(), {}, {Points: square().Points, Tris: square().Tris}} {
					if left, e := carve.Cut(m, holes); e != w.e || !same(left, api.Mesh{}) {
						t.Errorf("P15.1: hole %d: %v, error %d, not %d", first, left, e, w.e)
					}
				}
			}
		}
	}
}

// TestLongest asks about numbers of 100 bytes, and about more holes than a plan may have.
func TestLongest(t *testing.T) {
	tiny := api.Rat{Num: whole.Of(1), Den: "\x01" + api.Nat(strings.Repeat("\x00", 99))}
	m := square(api.Seg{A: 0, B: 2})
	hold(t, m, []api.Point{{X: tiny, Y: rat.Of(0)}})
	holes := []api.Point(nil)
	for i := range 1000 {
		holes = append(holes, at(i, -1))
	}
	if left, e := carve.Cut(m, holes); !same(left, m) || e != api.OK {
		t.Errorf("P15.1: %v, error %d", left, e)
	}
	holes = append(holes, api.Point{X: tiny, Y: rat.Of(0)})
	if left, e := carve.Cut(m, holes); len(left.Tris) != 1 || e != api.OK {
		t.Errorf("P15.1: %v, error %d", left, e)
	}
}

// TestMemory holds that what is handed in, and what is in its spare room, is as it was; that the answers share no memory with it, nor with each other; and that the same is answered again.
func TestMemory(t *testing.T) {
	r := random()
	given := fenced(r, woven(r, 20, 4), 100, 3)
	given.Points, given.Tris, given.Segs = append(given.Points, at(71, 71)), append(given.Tris, api.Tri{71}), append(given.Segs, api.Seg{A: 71})
	holes := []api.Point{half(5, 5), half(1, 2), at(71, 71)}
	m := api.Mesh{Points: given.Points[:len(given.Points)-1], Tris: given.Tris[:len(given.Tris)-1], Segs: given.Segs[:len(given.Segs)-1]}
	old, oldHoles := cloned(given), slices.Clone(holes)
	left, e := carve.Cut(m, holes[:2])
	parts, f := carve.Parts(m)
	ready := carve.Ready(m)
	if e != api.OK || f != api.OK || len(left.Tris) == len(m.Tris) {
		t.Fatalf("errors %d, %d; %d of %d triangles", e, f, len(left.Tris), len(m.Tris))
	}
	first, firstParts := cloned(left), slices.Clone(parts)
	clear(left.Points[:cap(left.Points)])
	clear(left.Tris[:cap(left.Tris)])
	if !slices.Equal(left.Segs, first.Segs) {
		t.Errorf("R5: segments hang on points or triangles")
	}
	clear(left.Segs[:cap(left.Segs)])
	clear(parts[:cap(parts)])
	if !same(given, old) || !slices.Equal(holes, oldHoles) {
		t.Errorf("R5: what was handed in is changed, or hangs on the answer")
	}
	left, _ = carve.Cut(m, holes[:2])
	parts, _ = carve.Parts(m)
	if !same(left, first) || !slices.Equal(parts, firstParts) || carve.Ready(m) != ready {
		t.Errorf("R6: asked again: %v, %v", left, parts)
	}
	clear(given.Points)
	clear(given.Tris)
	clear(given.Segs)
	clear(holes)
	if !same(left, first) || !slices.Equal(parts, firstParts) {
		t.Errorf("R5: the answer hangs on what was handed in")
	}
}
