package system_test

import (
	"slices"
	"testing"

	"gusset/api"
	"gusset/hull"
	"gusset/mesh"
	"gusset/poly"
	"gusset/rat"
	"gusset/system"
)

// hold asks Held and Build about a mesh, which may be.
func hold(t *testing.T, m api.Mesh, f api.Poly, g api.Poly) api.System {
	t.Helper()
	must(t, mesh.Check(m))
	if l, e := system.Held(m); !slices.Equal(l, wantHeld(m)) || e != api.OK {
		t.Fatalf("P18.1: Held of %v, %v: %v, error %d", m.Tris, m.Segs, l, e)
	}
	s, e := system.Build(m, f, g)
	if !sameSystem(s, wantBuild(m, f, g)) || e != api.OK {
		t.Fatalf("P18.2: Build of %d points, %v, %v: %d rows, %d bytes, error %d", len(m.Points), m.Tris, m.Segs, len(s.Rows), longest(s), e)
	}
	if e := system.Check(s); e != api.OK {
		t.Fatalf("P18.4: Check of what Build tells: error %d", e)
	}
	return s
}

func TestExamples(t *testing.T) {
	s := hold(t, square(true), polyOf(1, 2, 3), polyOf(0, 1, 10))
	for i, row := range s.Rows {
		if !slices.Equal(row, []api.Entry{{Col: i, Val: rat.Of(1)}}) {
			t.Errorf("P18.2: row %d: %v", i, row)
		}
	}
	if !slices.Equal(s.Right, []api.Rat{rat.Of(0), rat.Of(2), rat.Of(22), rat.Of(20)}) {
		t.Errorf("P18.2: the right side: %v", s.Right)
	}
	half := ratOf(small(-1, 2))
	want := api.System{
		Rows: [][]api.Entry{
			{{Col: 0, Val: rat.Of(1)}, {Col: 1, Val: half}, {Col: 3, Val: half}}, {{Col: 0, Val: half}, {Col: 1, Val: rat.Of(1)}, {Col: 2, Val: half}},
			{{Col: 1, Val: half}, {Col: 2, Val: rat.Of(1)}, {Col: 3, Val: half}}, {{Col: 0, Val: half}, {Col: 2, Val: half}, {Col: 3, Val: rat.Of(1)}},
		},
		Right: []api.Rat{rat.Of(4), rat.Of(2), rat.Of(4), rat.Of(2)},
	}
	if s := hold(t, square(false), polyOf(3), polyOf(7)); !sameSystem(s, want) {
		t.Errorf("P18.2: nothing held, and entries 0 across the square: %v", s)
	}
}

// TestNets asks about meshes with points that are no corners, with few Fixed segments and with many, of small numbers and of longer ones.
func TestNets(t *testing.T) {
	r := random()
	for i := range 60 {
		n := 1 + i%4
		m := net(r, n, r.IntN(2*n*n), r.IntN(3*n*n))
		if i%3 == 2 {
			m = drawn(r, m, 1+i/6)
		}
		hold(t, m, anyPoly(r, 1+i/4), anyPoly(r, 1+i/4))
	}
}

// TestFewThings asks about meshes of nothing, of points alone, and of a triangle.
func TestFewThings(t *testing.T) {
	hold(t, api.Mesh{}, polyOf(1), polyOf(1))
	if s := hold(t, api.Mesh{Points: []api.Point{at(1, 2), at(1, 2)}}, polyOf(1), polyOf(5)); !slices.Equal(s.Right, []api.Rat{rat.Of(0), rat.Of(0)}) {
		t.Errorf("P18.2: points that are no corners: %v", s)
	}
	three := api.Mesh{Points: []api.Point{at(5, 5), at(0, 0), at(3, 0), at(0, 1)}, Tris: []api.Tri{{3, 1, 2}}}
	hold(t, three, polyOf(1, -1, 2, 3, -5, 4), polyOf(2, 1, 1, 1, 1, 1))
	for _, fixed := range []bool{true, false} {
		three.Segs = []api.Seg{{A: 3, B: 2, Fixed: fixed}}
		hold(t, three, polyOf(1, -1, 2, 3, -5, 4), polyOf(2, 1, 1, 1, 1, 1))
	}
}

// TestLyingOnOneAnother asks about triangles that lie on one another, about a point and elsewhere.
func TestLyingOnOneAnother(t *testing.T) {
	r := random()
	for i := range 6 {
		m := wheel(r, 9+i, 1+i%3, 4)
		for k, tri := range m.Tris {
			if i > 2 && k%3 == 0 {
				m.Segs = append(m.Segs, api.Seg{A: tri[0], B: tri[1+i%2], Fixed: k%2 == 0})
			}
		}
		hold(t, m, anyPoly(r, 3), anyPoly(r, 3))
	}
}

// TestWithinR7 asks about meshes of 14 points, 20 triangles, and 20 bytes in each number: of those there is always a system.
func TestWithinR7(t *testing.T) {
	r := random()
	for i := range 8 {
		points := []api.Point(nil)
		for range 14 {
			l := values(r, 2, 20)
			points = append(points, api.Point{X: l[0], Y: l[1]})
		}
		m, e := hull.Build(points)
		must(t, e)
		m.Tris = m.Tris[:min(len(m.Tris), 20)]
		for range 4 * (i % 4) {
			tri, k := m.Tris[r.IntN(len(m.Tris))], r.IntN(3)
			put(&m, api.Seg{A: tri[k], B: tri[(k+1)%3], Fixed: i < 6})
		}
		hold(t, m, anyPoly(r, 20), anyPoly(r, 20))
	}
	m := wheel(r, 13, 1, 20)
	hold(t, m, anyPoly(r, 20), anyPoly(r, 20)) // the longest sum of the matrix
	s := hold(t, framed(m), anyPoly(r, 20), anyPoly(r, 20))
	if longest(s) < 2500 {
		t.Errorf("%d bytes: not so long a right side as there may be", longest(s))
	}
}

// TestTooLong asks about a point in many triangles of long numbers: its equation is too long, but if it is held, it is not asked for.
func TestTooLong(t *testing.T) {
	r := random()
	m := wheel(r, 30, 1, 100)
	if s, e := system.Build(m, polyOf(1), polyOf(1)); !isNone(s) || e != api.ErrLimit || longest(wantBuild(m, polyOf(1), polyOf(1))) <= 8000 {
		t.Errorf("R7: %d rows, error %d", len(s.Rows), e)
	}
	m.Segs = []api.Seg{{A: 0, B: 1, Fixed: true}}
	hold(t, m, polyOf(1), polyOf(1, 2, 3))
}

// TestGreatMeshes asks about as many points as there may be.
func TestGreatMeshes(t *testing.T) {
	r := random()
	m := net(r, 19, 0, 300)
	if len(m.Points) != 400 {
		t.Fatalf("%d points", len(m.Points))
	}
	hold(t, m, polyOf(1, 2, 3, 4, 5, 6), polyOf(6, 5, 4, 3, 2, 1))
}

// TestLinearEverywhere holds that of a g of degree 1, and f 0, the values of g leave nothing, where all that has nothing across is held.
func TestLinearEverywhere(t *testing.T) {
	r := random()
	for i := range 12 {
		m, g, f := framed(net(r, 1+i%4, 0, 0)), anyPoly(r, 1+i), polyOf()
		if i%2 == 1 {
			m = drawn(r, m, 1+i/3)
		}
		g[3], g[4], g[5] = rat.Of(0), rat.Of(0), rat.Of(0)
		x := []api.Rat(nil)
		for _, p := range m.Points {
			v, e := poly.Eval(g, p)
			must(t, e)
			x = append(x, v)
		}
		s, e := system.Build(m, f, g)
		must(t, e)
		l, e := system.Residual(s, x)
		if e != api.OK || len(l) != len(x) || slices.ContainsFunc(l, func(a api.Rat) bool { return a != rat.Of(0) }) {
			t.Errorf("P18.4: case %d: %v, error %d", i, l, e)
		}
	}
}

// TestNewMemory holds that nothing handed in is changed, and that what is answered shares no memory, whatever is written to all there is of it.
func TestNewMemory(t *testing.T) {
	r := random()
	m := net(r, 3, 3, 6)
	given := clonedMesh(m)
	s, e := system.Build(m, polyOf(1, 2), polyOf(3, 4))
	must(t, e)
	held, e := system.Held(m)
	must(t, e)
	want := clonedSystem(s)
	for i := range s.Rows {
		room := s.Rows[i][:cap(s.Rows[i])]
		for k := range room {
			room[k] = api.Entry{Col: -7, Val: rat.Of(-7)}
		}
		for k := range s.Rows {
			if k != i && !slices.Equal(s.Rows[k], want.Rows[k]) {
				t.Fatalf("R5: rows %d and %d share memory", i, k)
			}
		}
		copy(s.Rows[i], want.Rows[i])
	}
	if !sameSystem(s, want) || !sameMesh(m, given) {
		t.Error("R5: the right side or the mesh shares memory with a row")
	}
	x := values(r, len(s.Rows), 3)
	givenX := slices.Clone(x)
	l, e := system.Times(s, x)
	must(t, e)
	o, e := system.Residual(s, x)
	must(t, e)
	for _, answer := range [][]api.Rat{l, o, s.Right} {
		clear(answer[:cap(answer)])
	}
	clear(held[:cap(held)])
	if !slices.Equal(x, givenX) || !sameMesh(m, given) {
		t.Error("R5: what was handed in is changed")
	}
	if again, e := system.Build(m, polyOf(1, 2), polyOf(3, 4)); !sameSystem(again, want) || e != api.OK {
		t.Errorf("R6: asked again, another system, error %d", e)
	}
}
