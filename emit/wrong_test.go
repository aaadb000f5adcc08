package emit_test

import (
	"math"
	"slices"
	"testing"

	"gusset/api"
	"gusset/emit"
	"gusset/rat"
)

// refused holds that there is no file, for want; with places that may be and others.
func refused(t *testing.T, name string, m api.Mesh, u []api.Rat, want api.Errno) {
	t.Helper()
	if text, e := emit.Exact(m, u); text != "" || e != want {
		t.Errorf("P23.1: %s: %q, error %d, not %d", name, text, e, want)
	}
	for _, places := range []int{0, 3, 100, 101, -1} {
		if look, e := emit.Vtk(m, u, places); look != "" || e != want {
			t.Errorf("P23.3: %s, %d places: %q, error %d, not %d", name, places, look, e, want)
		}
	}
}

// TestWrongMeshes asks for files of meshes that may not be: that goes ahead of what is wrong with values.
func TestWrongMeshes(t *testing.T) {
	for _, c := range []struct {
		put  func(m *api.Mesh)
		want api.Errno
	}{
		{func(m *api.Mesh) { m.Tris[0] = api.Tri{0, 2, 1} }, api.ErrMesh}, {func(m *api.Mesh) { m.Tris[0][2] = -1 }, api.ErrMesh},
		{func(m *api.Mesh) { m.Tris[0][2] = 3 }, api.ErrMesh}, {func(m *api.Mesh) { m.Tris = append(m.Tris, api.Tri{1, 2, 0}) }, api.ErrMesh},
		{func(m *api.Mesh) { m.Segs[0].A = 2 }, api.ErrMesh}, {func(m *api.Mesh) { m.Segs[1].B = 7 }, api.ErrMesh}, {func(m *api.Mesh) { m.Points[2] = m.Points[0] }, api.ErrMesh},
		{func(m *api.Mesh) { m.Points = make([]api.Point, 401) }, api.ErrLimit}, {func(m *api.Mesh) { m.Tris = make([]api.Tri, 901) }, api.ErrLimit},
		{func(m *api.Mesh) { m.Segs = make([]api.Seg, 1301) }, api.ErrLimit}, {func(m *api.Mesh) { m.Points[2].X = api.Rat{} }, api.ErrArg},
		{func(m *api.Mesh) { m.Points[1].Y = long(101) }, api.ErrLimit},
	} {
		m, u := triangle()
		c.put(&m)
		for _, l := range [][]api.Rat{u, nil, u[:2], {{}, {}, {}}, {long(8001), {}, {}}} {
			refused(t, "a wrong mesh", m, l, c.want)
		}
	}
}

// TestWrongValues asks for files with values that may not be: the first one's error is told, if there are as many as points.
func TestWrongValues(t *testing.T) {
	m, good := triangle()
	refused(t, "no values", m, nil, api.ErrArg)
	refused(t, "too many values", m, append(slices.Clone(good), rat.Of(0)), api.ErrArg)
	refused(t, "too many values", m, append(slices.Clone(good), long(8001)), api.ErrArg)
	refused(t, "values of no mesh", api.Mesh{}, good, api.ErrArg)
	all := append(wrongs(), long(8001))
	for _, w := range all {
		refused(t, "too few values", m, []api.Rat{w, w}, api.ErrArg)
		for _, other := range all {
			for place := range 9 {
				u := slices.Clone(good)
				u[max(place%3, place/3)] = other
				u[min(place%3, place/3)] = w
				refused(t, "a wrong value", m, u, rat.Check(w))
			}
		}
	}
}

// TestWrongPlaces asks for places that may not be.
func TestWrongPlaces(t *testing.T) {
	m, u := triangle()
	for _, places := range []int{-1, 101, math.MinInt, math.MaxInt} {
		if look, e := emit.Vtk(m, u, places); look != "" || e != api.ErrArg {
			t.Errorf("P23.3: %d places: %q, error %d", places, look, e)
		}
		if look, e := emit.Vtk(api.Mesh{}, nil, places); look != "" || e != api.ErrArg {
			t.Errorf("P23.3: no mesh, %d places: %q, error %d", places, look, e)
		}
	}
}
