package cdt_test

import (
	"math"
	"slices"
	"strings"
	"testing"

	"gusset/api"
	"gusset/cdt"
	"gusset/rat"
	"gusset/whole"
)

// square is a mesh of two triangles.
func square() api.Mesh {
	return api.Mesh{Points: []api.Point{at(0, 0), at(2, 0), at(2, 2), at(0, 2)}, Tris: []api.Tri{{0, 1, 2}, {0, 2, 3}}, Segs: []api.Seg{{A: 0, B: 1}}}
}

// none tells whether a mesh is empty.
func none(m api.Mesh) bool { return len(m.Points)+len(m.Tris)+len(m.Segs) == 0 }

// TestWrongPoints puts points that may not be asked in every place of both calls' points: the first one's error is told, ahead of segments' and triangles'.
func TestWrongPoints(t *testing.T) {
	long := api.Rat{Num: whole.Of(1), Den: api.Nat(strings.Repeat("\x01", 101))}
	for _, w := range []struct {
		p api.Point
		e api.Errno
	}{
		{api.Point{X: long, Y: rat.Of(1)}, api.ErrLimit}, {api.Point{X: rat.Of(1), Y: long}, api.ErrLimit}, {api.Point{X: api.Rat{}, Y: long}, api.ErrLimit},
		{api.Point{}, api.ErrArg}, {api.Point{X: rat.Of(1)}, api.ErrArg}, {api.Point{X: rat.Of(1), Y: api.Rat{Num: whole.Of(2), Den: "\x04"}}, api.ErrArg},
	} {
		for i := range 4 {
			m := square()
			m.Tris[1][0] = 77
			if i < 3 { // a later one, wrong in another way
				m.Points[3] = api.Point{X: api.Rat{Den: "\x02"}, Y: rat.Of(0)}
			}
			m.Points[i] = w.p
			if legal, e := cdt.Legal(m); legal || e != w.e {
				t.Errorf("P14.2: point %d: %v, error %d, not %d", i, legal, e, w.e)
			}
			if out, e := cdt.Build(m.Points, []api.Seg{{A: 0, B: 9}}); e != w.e || !none(out) {
				t.Errorf("P14.1: point %d: error %d, not %d", i, e, w.e)
			}
		}
	}
}

// TestWrongEnds asks for segments that do not join two points.
func TestWrongEnds(t *testing.T) {
	l := square().Points
	for _, wrong := range []int{-1, 4, 5, math.MaxInt, math.MinInt} {
		for _, s := range []api.Seg{{A: wrong, B: 1}, {A: 1, B: wrong}, {A: wrong, B: wrong}} {
			for _, segs := range [][]api.Seg{{s}, {{A: 0, B: 2}, {A: 1, B: 3}, s}, {s, {A: 0, B: 1}, {A: 0, B: 1}}} {
				if m, e := cdt.Build(l, segs); e != api.ErrArg || !none(m) {
					t.Errorf("P14.1: %v: error %d", segs, e)
				}
			}
		}
	}
	for v := range l {
		if m, e := cdt.Build(l, []api.Seg{{A: v, B: v}}); e != api.ErrArg || !none(m) {
			t.Errorf("P14.1: from %d to itself: error %d", v, e)
		}
	}
}

// TestFirstOfSeveral puts each set of faults into 400 points and 1300 segments: the first one that is named is told.
func TestFirstOfSeveral(t *testing.T) {
	for set := range 1 << 8 {
		l, segs, want := []api.Point(nil), []api.Seg(nil), api.OK
		for i := range 400 {
			l = append(l, at(i, i%2))
		}
		for i := range 399 {
			segs = append(segs, api.Seg{A: i, B: i + 1})
		}
		put := func(bit int, e api.Errno, fault func()) {
			if set>>bit&1 != 0 {
				want = e
				fault()
			}
		}
		put(7, api.ErrCross, func() { segs = append(segs, api.Seg{A: 8, B: 12}) })
		put(6, api.ErrArg, func() { segs = append(segs, api.Seg{A: 3, B: 400}) })
		put(5, api.ErrFlat, func() {
			for i := range l {
				l[i] = at(i, 0)
			}
		})
		put(4, api.ErrTwice, func() { l[7] = l[300] })
		put(3, api.ErrArg, func() { l[20].Y = api.Rat{} })
		put(2, api.ErrLimit, func() { l[10].X.Num.Mag = api.Nat(strings.Repeat("\x02", 101)) })
		put(1, api.ErrLimit, func() { l = append(l, at(9, 9)) })
		put(0, api.ErrLimit, func() { segs = append(segs, make([]api.Seg, 902)...) })
		if m, e := cdt.Build(l, segs); e != want || none(m) != (want != api.OK) {
			t.Errorf("R2: the set %b: error %d, not %d", set, e, want)
		}
	}
}

// TestWrongMesh asks Legal about meshes that may not be.
func TestWrongMesh(t *testing.T) {
	for i, c := range []struct {
		spoil func(m *api.Mesh)
		want  api.Errno
	}{
		{func(m *api.Mesh) { m.Points = append(m.Points, make([]api.Point, 397)...) }, api.ErrLimit},
		{func(m *api.Mesh) { m.Tris = append(m.Tris, make([]api.Tri, 899)...) }, api.ErrLimit},
		{func(m *api.Mesh) { m.Segs = append(m.Segs, make([]api.Seg, 1300)...) }, api.ErrLimit},
		{func(m *api.Mesh) { m.Tris[1] = api.Tri{0, 3, 2} }, api.ErrMesh}, {func(m *api.Mesh) { m.Tris[0][2] = 4 }, api.ErrMesh}, {func(m *api.Mesh) { m.Tris[0][0] = -1 }, api.ErrMesh},
		{func(m *api.Mesh) { m.Tris[1] = m.Tris[0] }, api.ErrMesh}, {func(m *api.Mesh) { m.Segs = append(m.Segs, m.Segs[0]) }, api.ErrMesh},
		{func(m *api.Mesh) { m.Segs[0].B = 9 }, api.ErrMesh}, {func(m *api.Mesh) { m.Segs[0] = api.Seg{A: 1, B: 3} }, api.ErrMesh},
	} {
		m := square()
		c.spoil(&m)
		if legal, e := cdt.Legal(m); legal || e != c.want {
			t.Errorf("P14.2: case %d: %v, error %d, not %d", i, legal, e, c.want)
		}
	}
}

// TestMemory holds that what is handed in, and what is in its spare room, is as it was; that the answers share no memory with it, nor with later ones; and that the same is answered again.
func TestMemory(t *testing.T) {
	r := random()
	points := append(scatter(r, 20, 6, 6), at(71, 71), at(72, 72))
	lines := append(joined(r, points[:20], 9, 200), api.Seg{A: 71}, api.Seg{A: 72})
	l, segs := points[:20], lines[:len(lines)-2]
	oldPoints, oldLines := slices.Clone(points), slices.Clone(lines)
	m, e := cdt.Build(l, segs)
	legal, f := cdt.Legal(m)
	first := api.Mesh{Points: slices.Clone(m.Points), Tris: slices.Clone(m.Tris), Segs: slices.Clone(m.Segs)}
	if !legal || e != api.OK || f != api.OK || len(segs) != 9 {
		t.Fatalf("%d segments, legal: %v, errors %d, %d", len(segs), legal, e, f)
	}
	if cdt.Legal(m); !slices.Equal(m.Points, first.Points) || !slices.Equal(m.Tris, first.Tris) || !slices.Equal(m.Segs, first.Segs) {
		t.Errorf("R5: Legal has changed what it was given")
	}
	clear(m.Points[:cap(m.Points)])
	clear(m.Segs[:cap(m.Segs)])
	if !slices.Equal(m.Tris, first.Tris) {
		t.Errorf("R5: triangles hang on points or segments")
	}
	clear(m.Tris[:cap(m.Tris)])
	if !slices.Equal(points, oldPoints) || !slices.Equal(lines, oldLines) {
		t.Errorf("R5: what was handed in is changed, or hangs on the answer")
	}
	m, _ = cdt.Build(l, segs)
	clear(points)
	clear(lines)
	if !slices.Equal(m.Points, first.Points) || !slices.Equal(m.Tris, first.Tris) || !slices.Equal(m.Segs, first.Segs) {
		t.Errorf("R5, R6: asked again: %v", m)
	}
}
