package refine_test

import (
	"math"
	"math/big"
	"slices"
	"strings"
	"testing"

	"gusset/api"
	"gusset/rat"
	"gusset/refine"
	"gusset/whole"
)

// nat is a number of n bytes, that is no multiple of 2.
func nat(n int) api.Nat { return api.Nat(strings.Repeat("\x01", n)) }

func long(over, under int) api.Rat {
	return ratOf(new(big.Rat).SetFrac(new(big.Int).SetBytes([]byte(nat(over))), new(big.Int).SetBytes([]byte("\x02"+strings.Repeat("\x00", under-1)))))
}

// holdWrong holds that all calls tell the mesh's error, whatever else is wrong.
func holdWrong(t *testing.T, name string, m api.Mesh, want api.Errno) {
	t.Helper()
	for _, sizes := range [][]api.Size{nil, make([]api.Size, 1), make([]api.Size, 101)} {
		if l, e := refine.Bad(m, sizes); e != want || len(l) != 0 {
			t.Errorf("P16.1: %s: %v, error %d, not %d", name, l, e, want)
		}
		for _, budget := range []int{-1, 100, 401} {
			if n, e := refine.Refine(m, sizes, nil, budget); e != want || !none(n) {
				t.Errorf("P16.2: %s: %v, error %d, not %d", name, n, e, want)
			}
		}
	}
	if l, e := refine.Crowded(m); e != want || len(l) != 0 {
		t.Errorf("P16.1: %s: %v, error %d, not %d", name, l, e, want)
	}
}

// TestWrongMesh asks about meshes that may not be.
func TestWrongMesh(t *testing.T) {
	for name, c := range map[string]struct {
		spoil func(m *api.Mesh)
		want  api.Errno
	}{
		"401 points":                     {func(m *api.Mesh) { m.Points = append(m.Points, make([]api.Point, 397)...) }, api.ErrLimit},
		"901 triangles":                  {func(m *api.Mesh) { m.Tris = append(m.Tris, make([]api.Tri, 899)...) }, api.ErrLimit},
		"1301 segments":                  {func(m *api.Mesh) { m.Segs = append(m.Segs, make([]api.Seg, 1297)...) }, api.ErrLimit},
		"a triangle to the right":        {func(m *api.Mesh) { m.Tris[1] = api.Tri{0, 3, 2} }, api.ErrMesh},
		"a corner that is none":          {func(m *api.Mesh) { m.Tris[0][2] = 4 }, api.ErrMesh},
		"the same triangle twice":        {func(m *api.Mesh) { m.Tris[1] = m.Tris[0] }, api.ErrMesh},
		"the same segment twice":         {func(m *api.Mesh) { m.Segs[1] = api.Seg{A: 1, B: 0} }, api.ErrMesh},
		"a segment that is no edge":      {func(m *api.Mesh) { m.Segs[1] = api.Seg{A: 1, B: 3} }, api.ErrMesh},
		"a segment's end that is none":   {func(m *api.Mesh) { m.Segs[1].B = math.MaxInt }, api.ErrMesh},
		"a point that may not be asked":  {func(m *api.Mesh) { m.Points[3].X = api.Rat{} }, api.ErrArg},
		"a point too long, and no edges": {func(m *api.Mesh) { m.Points[2].Y, m.Tris[0][0] = long(101, 1), 9 }, api.ErrLimit},
	} {
		m := square()
		c.spoil(&m)
		holdWrong(t, name, m, c.want)
	}
}

// size is one that may be.
func size() api.Size { return api.Size{Centre: at(1, 1), Within2: rat.Of(0), Most2: rat.Of(9)} }

// TestSizes asks about sizes that may not be, in each place, and about such that just may be.
func TestSizes(t *testing.T) {
	uncut := api.Rat{Num: whole.Of(2), Den: "\x04"}
	for name, c := range map[string]struct {
		change func(s *api.Size)
		want   api.Errno
	}{
		"as it is": {func(s *api.Size) {}, api.OK},
		"the longest": {func(s *api.Size) {
			*s = api.Size{Centre: api.Point{X: long(50, 50), Y: long(50, 50)}, Within2: long(50, 50), Most2: long(50, 50)}
		}, api.OK},
		"nothing":              {func(s *api.Size) { *s = api.Size{} }, api.ErrArg},
		"Most2 0":              {func(s *api.Size) { s.Most2 = rat.Of(0) }, api.ErrArg},
		"Most2 below 0":        {func(s *api.Size) { s.Most2 = rat.Of(-1) }, api.ErrArg},
		"Most2 uncut":          {func(s *api.Size) { s.Most2 = uncut }, api.ErrArg},
		"Most2 over too long":  {func(s *api.Size) { s.Most2 = long(51, 1) }, api.ErrArg},
		"Most2 under too long": {func(s *api.Size) { s.Most2 = long(1, 51) }, api.ErrArg},
		"Most2 beyond all":     {func(s *api.Size) { s.Most2 = long(9000, 1) }, api.ErrArg},
		"Within2 below 0":      {func(s *api.Size) { s.Within2 = ratOf(small(-1, 1000)) }, api.ErrArg},
		"Within2 uncut":        {func(s *api.Size) { s.Within2 = uncut }, api.ErrArg},
		"Within2 too long":     {func(s *api.Size) { s.Within2 = long(51, 1) }, api.ErrArg},
		"Within2 under":        {func(s *api.Size) { s.Within2 = long(1, 51) }, api.ErrArg},
		"X uncut":              {func(s *api.Size) { s.Centre.X = uncut }, api.ErrArg},
		"Y of nothing":         {func(s *api.Size) { s.Centre.Y = api.Rat{} }, api.ErrArg},
		"X too long":           {func(s *api.Size) { s.Centre.X = long(51, 1) }, api.ErrArg},
		"X under too long":     {func(s *api.Size) { s.Centre.X = long(1, 51) }, api.ErrArg},
		"Y too long":           {func(s *api.Size) { s.Centre.Y = long(51, 1) }, api.ErrArg},
		"Y under too long":     {func(s *api.Size) { s.Centre.Y = long(1, 51) }, api.ErrArg},
		"Y not to be asked":    {func(s *api.Size) { s.Centre.Y = long(101, 1) }, api.ErrArg},
	} {
		for place := range 3 {
			sizes := []api.Size{size(), size(), size()}
			c.change(&sizes[place])
			if _, e := refine.Bad(square(), sizes); e != c.want {
				t.Errorf("P16.1: %s: error %d, not %d", name, e, c.want)
			}
			if n, e := refine.Refine(square(), sizes, nil, 400); e != c.want && (c.want != api.OK || e != api.ErrBudget) || e != api.OK && !none(n) {
				t.Errorf("P16.2: %s: error %d, not %d", name, e, c.want)
			}
		}
	}
}

// TestCounts asks about 100 sizes, and about more: that is an ErrLimit, whatever they are.
func TestCounts(t *testing.T) {
	for n, want := range map[int]api.Errno{0: api.OK, 100: api.OK, 101: api.ErrLimit, 5000: api.ErrLimit} {
		sizes := slices.Repeat([]api.Size{size()}, n)
		if _, e := refine.Bad(square(), sizes); e != want {
			t.Errorf("P16.1: %d sizes: error %d", n, e)
		}
		if _, e := refine.Refine(square(), sizes, nil, 4); e != want {
			t.Errorf("P16.2: %d sizes: error %d", n, e)
		}
	}
	for budget, want := range map[int]api.Errno{-1: api.ErrArg, 0: api.OK, 400: api.OK, 401: api.ErrArg, math.MaxInt: api.ErrArg, math.MinInt: api.ErrArg} {
		if _, e := refine.Refine(square(), nil, nil, budget); e != want {
			t.Errorf("P16.2: budget %d: error %d", budget, e)
		}
	}
}

// TestLongPoints asks about points of just 50 bytes, and of more, in each place.
func TestLongPoints(t *testing.T) {
	for place := range 4 {
		for _, c := range []struct {
			x    api.Rat
			want api.Errno
		}{{long(50, 50), api.OK}, {long(51, 50), api.ErrLimit}, {long(50, 51), api.ErrLimit}, {long(100, 100), api.ErrLimit}} {
			for _, y := range []bool{false, true} {
				m := square()
				m.Points = append(m.Points, at(0, 0), at(0, 0), at(0, 0), at(0, 0)) // no corners
				if y {
					m.Points[4+place].Y = c.x
				} else {
					m.Points[4+place].X = c.x
				}
				if _, e := refine.Bad(m, nil); e != c.want {
					t.Errorf("P16.1: error %d, not %d", e, c.want)
				}
				if _, e := refine.Refine(m, nil, nil, 0); e != c.want {
					t.Errorf("P16.2: error %d, not %d", e, c.want)
				}
				if _, e := refine.Crowded(m); e != api.OK {
					t.Errorf("P16.1: error %d", e)
				}
			}
		}
	}
}

// TestFirstOfSeveral puts in each set of faults: the first one that is named is told.
func TestFirstOfSeveral(t *testing.T) {
	for set := range 1 << 6 {
		m, sizes, budget, want := square(), []api.Size{size()}, 9, api.OK
		put := func(bit int, e api.Errno, fault func()) {
			if set>>bit&1 != 0 {
				want = e
				fault()
			}
		}
		put(5, api.ErrArg, func() { budget = 401 })
		put(4, api.ErrArg, func() { sizes[0].Most2 = rat.Of(0) })
		put(3, api.ErrLimit, func() { sizes = slices.Repeat(sizes, 101) })
		put(2, api.ErrLimit, func() { m.Points = append(m.Points, api.Point{X: rat.Of(0), Y: long(51, 1)}) })
		put(1, api.ErrMesh, func() { m.Segs = m.Segs[:3] })
		put(0, api.ErrArg, func() { m.Points = append(m.Points, api.Point{}) })
		if n, e := refine.Refine(m, sizes, nil, budget); e != want || none(n) != (want != api.OK) {
			t.Errorf("P16.2, R2: the set %b: error %d, not %d", set, e, want)
		}
		if want == api.ErrMesh || set&^(1<<5|1<<1) == 0 { // Bad knows neither tidiness nor a budget
			continue
		}
		if l, e := refine.Bad(m, sizes); e != want || len(l) != 0 {
			t.Errorf("P16.1, R2: the set %b: error %d, not %d", set, e, want)
		}
	}
}

// TestTooLong asks for a point that would have more than 50 bytes: of a segment's middle, of which there is no other; one in a triangle need not be in the midst of its circle.
func TestTooLong(t *testing.T) {
	m := square()
	third := ratOf(small(1, 3))
	m.Points[1] = api.Point{X: ratOf(plus(small(2, 1), over(small(1, 1), bigOf(long(40, 1))))), Y: rat.Of(0)}
	m.Points[0] = api.Point{X: ratOf(over(small(1, 1), new(big.Rat).SetInt(new(big.Int).Lsh(big.NewInt(1), 300)))), Y: rat.Of(0)}
	sizes := []api.Size{{Centre: at(1, 1), Within2: rat.Of(9), Most2: third}}
	for _, p := range m.Points {
		if max(len(p.X.Num.Mag), len(p.X.Den)) > 50 {
			t.Fatalf("too long ahead: %v", p)
		}
	}
	if n, e := refine.Refine(m, sizes, nil, 400); e != api.ErrBudget || !none(n) {
		t.Errorf("P16.2: error %d, %d points", e, len(n.Points))
	}
	if n, e := refine.Refine(m, nil, nil, 400); e != api.OK || !same(n, m) {
		t.Errorf("P16.4: error %d, %v", e, n)
	}
}

// TestMemory holds that what is handed in, and what is in its spare room, is as it was; that the answers share no memory with it, nor with each other; and that the same is answered again.
func TestMemory(t *testing.T) {
	r := random()
	for _, grow := range []bool{false, true} {
		given := square()
		given.Points, given.Tris, given.Segs = append(given.Points, at(71, 71)), append(given.Tris, api.Tri{71}), append(given.Segs, api.Seg{A: 71})
		m := api.Mesh{Points: given.Points[:4], Tris: given.Tris[:2], Segs: given.Segs[:4]}
		sizes := []api.Size{{Centre: at(1, 1), Within2: rat.Of(4), Most2: ratOf(small(1, 9))}, size()}
		if !grow {
			sizes = sizes[1:]
		}
		picks := picksOf(r, 9)
		old, oldSizes, oldPicks := cloned(given), slices.Clone(sizes), slices.Clone(picks)
		n, e := refine.Refine(m, sizes, picks, 300)
		bad, f := refine.Bad(m, sizes)
		if e != api.OK || f != api.OK || (len(n.Points) > 4) != grow || (len(bad) > 0) != grow {
			t.Fatalf("errors %d, %d; %d points, %v", e, f, len(n.Points), bad)
		}
		first, firstBad := cloned(n), slices.Clone(bad)
		clear(n.Points[:cap(n.Points)])
		clear(n.Tris[:cap(n.Tris)])
		if !slices.Equal(n.Segs, first.Segs) {
			t.Errorf("R5: segments hang on points or triangles")
		}
		clear(n.Segs[:cap(n.Segs)])
		clear(bad[:cap(bad)])
		if !same(given, old) || !slices.Equal(sizes, oldSizes) || !slices.Equal(picks, oldPicks) {
			t.Errorf("R5: what was handed in is changed, or hangs on the answer")
		}
		n, _ = refine.Refine(m, sizes, picks, 300)
		bad, _ = refine.Bad(m, sizes)
		if !same(n, first) || !slices.Equal(bad, firstBad) {
			t.Errorf("R6: asked again: %v, %v", n, bad)
		}
		clear(given.Points)
		clear(given.Tris)
		clear(given.Segs)
		clear(sizes)
		clear(picks)
		if !same(n, first) || !slices.Equal(bad, firstBad) {
			t.Errorf("R5: the answer hangs on what was handed in")
		}
	}
}
