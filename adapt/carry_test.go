package adapt_test

import (
	"math/rand/v2"
	"slices"
	"testing"

	"gusset/adapt"
	"gusset/api"
	"gusset/locate"
	"gusset/mesh"
	"gusset/rat"
)

// wantCarry asks locate about each point.
func wantCarry(m api.Mesh, u []api.Rat, n api.Mesh) ([]api.Rat, api.Errno) {
	out := []api.Rat(nil)
	for _, p := range n.Points {
		x, in, e := locate.Value(m, u, p)
		if e != api.OK {
			return nil, e
		}
		if !in {
			return nil, api.ErrArg
		}
		out = append(out, x)
	}
	return out, api.OK
}

// holdCarry asks about meshes and values that may be.
func holdCarry(t *testing.T, m api.Mesh, u []api.Rat, n api.Mesh) []api.Rat {
	t.Helper()
	must(t, mesh.Check(m))
	must(t, mesh.Check(n))
	want, kind := wantCarry(m, u, n)
	out, e := adapt.Carry(m, u, n)
	if !slices.Equal(out, want) || e != kind {
		t.Fatalf("P22.3: Carry from %v to %v: %d values, error %d, not %d", m.Tris, n.Points, len(out), e, kind)
	}
	return out
}

func TestCarryExamples(t *testing.T) {
	n := square()
	n.Points = append(n.Points, at(1, 0), at(1, 1), at(0, 1), at(2, 1))
	n.Segs = nil
	if l := holdCarry(t, square(), ints(0, 2, 6, 4), n); !slices.Equal(l, ints(0, 2, 6, 4, 1, 3, 2, 4)) {
		t.Errorf("P22.3: %v", l)
	}
	n.Points = append(n.Points, at(2, 3))
	if l := holdCarry(t, square(), ints(0, 2, 6, 4), n); len(l) != 0 {
		t.Errorf("P22.3: a point outside: %v", l)
	}
}

// points is a mesh of points alone, in and about a net of squares, n by n.
func points(r *rand.Rand, n int, count int, out int) api.Mesh {
	m := api.Mesh{}
	for range count {
		d := 1 + r.IntN(4)
		m.Points = append(m.Points, api.Point{X: part(r.IntN((n+out)*d+1), d), Y: part(r.IntN((n+out)*d+1), d)})
	}
	return m
}

// TestCarryNets carries values to points at corners, on edges, within triangles and elsewhere, in whole meshes and in such with holes.
func TestCarryNets(t *testing.T) {
	r := random()
	told, refused := 0, 0
	for i := range 60 {
		n := 1 + i%4
		m := grid(r, n, i%3)
		u := values(r, len(m.Points), 1+i/4)
		to := points(r, n, 1+i%6, i%5/4)
		if i%2 == 1 {
			draw := drawer(r, 1+i/6)
			m, to = drawn(m, draw), drawn(to, draw)
		}
		if l := holdCarry(t, m, u, to); len(l) > 0 {
			told++
		} else {
			refused++
		}
	}
	if told < 20 || refused < 10 {
		t.Errorf("%d told, %d refused", told, refused)
	}
}

// TestCarrySeveral carries values from triangles that lie on one another: the first one counts.
func TestCarrySeveral(t *testing.T) {
	m := api.Mesh{Points: []api.Point{at(0, 0), at(9, 0), at(0, 9), at(1, 1), at(6, 1), at(1, 6)}, Tris: []api.Tri{{0, 1, 2}, {3, 4, 5}}}
	u := ints(0, 9, 9, 100, 100, 100)
	to := api.Mesh{Points: []api.Point{at(2, 2), at(1, 1), at(0, 0)}}
	if l := holdCarry(t, m, u, to); !slices.Equal(l, ints(4, 2, 0)) {
		t.Errorf("P22.3: %v", l)
	}
	m.Tris[0], m.Tris[1] = m.Tris[1], m.Tris[0]
	if l := holdCarry(t, m, u, to); !slices.Equal(l, ints(100, 100, 0)) {
		t.Errorf("P22.3: %v", l)
	}
}

// TestCarrySame holds that values carried to the same mesh are the same, at corners.
func TestCarrySame(t *testing.T) {
	r := random()
	for i := range 12 {
		m := drawn(grid(r, 1+i%4, 0), drawer(r, 1+i))
		u := values(r, len(m.Points), 1+2*i)
		if l, e := adapt.Carry(m, u, m); !slices.Equal(l, u) || e != api.OK {
			t.Errorf("P22.4: %d values, error %d", len(l), e)
		}
	}
}

// TestCarryNothing carries values to a mesh of nothing, and from one.
func TestCarryNothing(t *testing.T) {
	holdCarry(t, square(), ints(1, 2, 3, 4), api.Mesh{})
	holdCarry(t, api.Mesh{}, nil, api.Mesh{})
	holdCarry(t, api.Mesh{}, nil, square())
	holdCarry(t, api.Mesh{Points: []api.Point{at(1, 1)}}, ints(1), api.Mesh{Points: []api.Point{at(1, 1)}})
}

// TestCarryMany carries values between meshes of as many points as there may be.
func TestCarryMany(t *testing.T) {
	r := random()
	m, to := grid(r, 19, 0), grid(r, 19, 0)
	u := values(r, 400, 9)
	l, e := adapt.Carry(m, u, to)
	if !slices.Equal(l, u) || e != api.OK {
		t.Errorf("P22.3: %d values, error %d", len(l), e)
	}
}

// TestCarryLong carries values that are as long as they may be: what is told is longer.
func TestCarryLong(t *testing.T) {
	r := random()
	l := holdCarry(t, square(), values(r, 4, 8000), api.Mesh{Points: []api.Point{{X: part(4, 3), Y: part(1, 3)}, at(2, 0)}})
	if len(l) != 2 || len(l[0].Den) < 20000 {
		t.Errorf("P22.3: %d values", len(l))
	}
}

// wrongMesh is a change to a square by which it may not be.
type wrongMesh struct {
	put  func(m *api.Mesh)
	want api.Errno
}

func wrongMeshes() []wrongMesh {
	return []wrongMesh{
		{func(m *api.Mesh) { m.Tris[1] = api.Tri{0, 3, 2} }, api.ErrMesh}, {func(m *api.Mesh) { m.Tris[0][2] = -1 }, api.ErrMesh},
		{func(m *api.Mesh) { m.Tris[0][2] = 4 }, api.ErrMesh}, {func(m *api.Mesh) { m.Tris = append(m.Tris, api.Tri{1, 2, 3}) }, api.ErrMesh},
		{func(m *api.Mesh) { m.Segs = []api.Seg{{A: 1, B: 3}} }, api.ErrMesh}, {func(m *api.Mesh) { m.Points[2] = m.Points[0] }, api.ErrMesh},
		{func(m *api.Mesh) { m.Points = make([]api.Point, 401) }, api.ErrLimit}, {func(m *api.Mesh) { m.Tris = make([]api.Tri, 901) }, api.ErrLimit},
		{func(m *api.Mesh) { m.Segs = make([]api.Seg, 1301) }, api.ErrLimit}, {func(m *api.Mesh) { m.Points[3].X = api.Rat{} }, api.ErrArg},
		{func(m *api.Mesh) { m.Points[1].Y = long(101) }, api.ErrLimit},
	}
}

// TestWrongCarries asks with meshes and values that may not be: the error of the first mesh goes ahead of that of the second, and that of the values behind; last comes a point that lies nowhere.
func TestWrongCarries(t *testing.T) {
	refused := func(name string, m api.Mesh, u []api.Rat, n api.Mesh, want api.Errno) {
		t.Helper()
		if l, e := adapt.Carry(m, u, n); len(l) != 0 || e != want {
			t.Errorf("P22.3: %s: %v, error %d, not %d", name, l, e, want)
		}
	}
	good, outside := ints(1, 2, 3, 4), api.Mesh{Points: []api.Point{at(9, 9)}}
	for _, c := range wrongMeshes() {
		m := square()
		c.put(&m)
		for _, u := range [][]api.Rat{good, nil, {{}, {}, {}, {}}} {
			refused("a wrong first mesh", m, u, square(), c.want)
			refused("a wrong second mesh", square(), u, m, c.want)
			for _, other := range wrongMeshes() {
				n := square()
				other.put(&n)
				refused("two wrong meshes", m, u, n, c.want)
			}
		}
	}
	all := append(wrongs(), long(8001), far(8001))
	for _, n := range []api.Mesh{square(), outside, {}} { // whatever they are carried to
		refused("no values", square(), nil, n, api.ErrArg)
		refused("too many values", square(), append(slices.Clone(good), long(8001)), n, api.ErrArg)
		for _, w := range all {
			refused("too few values", square(), []api.Rat{w, w, w}, n, api.ErrArg)
			for _, other := range all {
				for place := range 16 {
					u := slices.Clone(good)
					u[max(place%4, place/4)] = other
					u[min(place%4, place/4)] = w
					refused("a wrong value", square(), u, n, rat.Check(w))
				}
			}
		}
	}
	refused("a point outside", square(), good, outside, api.ErrArg)
	n := square()
	n.Points = append(n.Points, api.Point{X: part(201, 100), Y: rat.Of(1)})
	refused("the last point outside", square(), good, n, api.ErrArg)
}

// TestCarryMemory holds that nothing handed in is changed, that what is answered shares no memory with it, and that the same is answered again.
func TestCarryMemory(t *testing.T) {
	m, n, u := square(), square(), ints(1, 2, 3, 4, 7)
	given, givenU := clonedMesh(m), slices.Clone(u)
	for range 3 {
		l := holdCarry(t, m, u[:4], n)
		clear(l[:cap(l)])
		if !sameMesh(m, given) || !sameMesh(n, given) || !slices.Equal(u, givenU) {
			t.Fatal("R5: what was handed in is changed")
		}
	}
}
