package run_test

import (
	"slices"
	"strings"
	"testing"

	"gusset/api"
	"gusset/emit"
	"gusset/rat"
	"gusset/run"
)

// TestFiles holds that both files are emit's, and that the exact one is read back as it was.
func TestFiles(t *testing.T) {
	p := params(100, 1)
	p.Floor2 = part(1, 4)
	for _, text := range []string{square("dddd", unit, none), square("dnnd", "1 1/3 0 0 2 0", "1/7 0 1 0 0 2"), strip(5)} {
		r, e := run.Run(text, p, nil)
		must(t, e)
		for _, places := range []int{0, 1, 12, 100} {
			exact, look, e := run.Files(r, places)
			must(t, e)
			wantExact, _ := emit.Exact(r.Mesh, r.Values)
			wantLook, _ := emit.Vtk(r.Mesh, r.Values, places)
			if exact != wantExact || look != wantLook || !strings.HasPrefix(exact, "mesh\n") || !strings.HasPrefix(look, "# vtk") {
				t.Errorf("P24.4: %.100q, %.100q", exact, look)
			}
			if m, u, e := emit.Read(exact); !sameMesh(m, r.Mesh) || !slices.Equal(u, r.Values) || e != api.OK {
				t.Errorf("P6: read back: error %d", e)
			}
		}
	}
	if exact, look, e := run.Files(api.Result{}, 3); exact != "mesh\nv 0\nt 0\ns 0\nend\n" || !strings.HasSuffix(look, "LOOKUP_TABLE default\n") || e != api.OK {
		t.Errorf("P24.4: of nothing: %q, %q, error %d", exact, look, e)
	}
}

// TestWrongFiles asks for files of results that may not be, and with places that may not be, which is told last.
func TestWrongFiles(t *testing.T) {
	good, e := run.Run(square("dddd", unit, none), params(4, 0), nil)
	must(t, e)
	for _, c := range []struct {
		name string
		put  func(r *api.Result)
		want api.Errno
	}{
		{"a mesh", func(r *api.Result) { r.Mesh.Tris = []api.Tri{{0, 2, 1}} }, api.ErrMesh},
		{"too many points", func(r *api.Result) { r.Mesh.Points = make([]api.Point, 401) }, api.ErrLimit},
		{"a point", func(r *api.Result) { r.Mesh.Points = []api.Point{{}} }, api.ErrArg},
		{"too few values", func(r *api.Result) { r.Values = r.Values[:3] }, api.ErrArg},
		{"a value", func(r *api.Result) { r.Values = []api.Rat{rat.Of(0), {}, long(8001), rat.Of(0)} }, api.ErrArg},
		{"a long value", func(r *api.Result) { r.Values = []api.Rat{rat.Of(0), long(8001), {}, rat.Of(0)} }, api.ErrLimit},
	} {
		r := good
		c.put(&r)
		for _, places := range []int{3, -1, 101} {
			if exact, look, e := run.Files(r, places); exact != "" || look != "" || e != c.want {
				t.Errorf("P24.4: %s: %q, %q, error %d, not %d", c.name, exact, look, e, c.want)
			}
		}
	}
	for _, places := range []int{-1, 101} {
		if exact, look, e := run.Files(good, places); exact != "" || look != "" || e != api.ErrArg {
			t.Errorf("P24.4: %d places: %q, %q, error %d", places, exact, look, e)
		}
	}
}
