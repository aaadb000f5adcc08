package estimate_test

import (
	"math/big"
	"slices"
	"testing"

	"gusset/api"
	"gusset/estimate"
	"gusset/hull"
	"gusset/mesh"
	"gusset/rat"
)

// hold asks all calls about a mesh and values, which may be, and of which no number gets too long.
func hold(t *testing.T, m api.Mesh, u []api.Rat, f api.Poly) []api.Rat {
	t.Helper()
	must(t, mesh.Check(m))
	want := wantEach(m, u, f)
	each, e := estimate.Each(m, u, f)
	if !slices.Equal(each, want) || e != api.OK {
		t.Fatalf("P21.1: Each of %d points, %v, %v: %d numbers, error %d", len(m.Points), m.Tris, m.Segs, len(each), e)
	}
	if a, e := estimate.Total(m, u, f); a != wantTotal(want) || e != api.OK {
		t.Fatalf("P21.1: Total of %d points, %v, %v: %d bytes, error %d", len(m.Points), m.Tris, m.Segs, longest(a), e)
	}
	if a, e := estimate.Energy2(m, u); a != wantEnergy2(m, u) || e != api.OK {
		t.Fatalf("P21.2: Energy2 of %d points, %v: %d bytes, error %d", len(m.Points), m.Tris, longest(a), e)
	}
	for i, a := range each {
		if a.Num.Neg {
			t.Fatalf("P21.3: triangle %d: %v", i, a)
		}
	}
	return each
}

func TestExamples(t *testing.T) {
	for i, c := range []struct {
		m    api.Mesh
		u    []api.Rat
		f    api.Poly
		want []api.Rat
	}{
		{square(true), ints(0, 0, 0, 0), polyOf(1), ints(4, 4)},
		{square(false), ints(0, 0, 0, 0), polyOf(1), ints(4, 4)},
		{square(true), ints(5, 5, 5, 5), polyOf(0, 0, 0), ints(0, 0)},
		{square(true), ints(0, 2, 2, 0), polyOf(), ints(0, 0)},     // the slope is (1, 0) everywhere
		{square(false), ints(0, 2, 2, 0), polyOf(), ints(4, 4)},    // and goes out at a side of each
		{square(true), ints(0, 0, 0, 2), polyOf(), ints(8, 8)},     // slopes (0, 0) and (-1, 1): 4 between them, squared, and half of that
		{square(false), ints(0, 0, 0, 2), polyOf(), ints(8, 16)},   // and 4 at each of two sides
		{square(false), ints(0, 0, 0, 2), polyOf(1), ints(12, 20)}, // and the load
	} {
		if l := hold(t, c.m, c.u, c.f); !slices.Equal(l, c.want) {
			t.Errorf("P21.1: case %d: %v", i, l)
		}
	}
}

// TestNets asks about meshes with points that are no corners, with few Fixed segments and with many, of small numbers and of longer ones.
func TestNets(t *testing.T) {
	r := random()
	for i := range 60 {
		n := 1 + i%4
		m := grid(r, n, r.IntN(2*n*n), r.IntN(3*n*n))
		if i%3 == 2 {
			m = drawn(r, m, 1+i/6)
		}
		hold(t, m, values(r, len(m.Points), 1+i/8), anyPoly(r, 1+i/4))
		hold(t, m, alike(r, len(m.Points), 1+2*i), anyPoly(r, 1))
	}
}

// TestFewThings asks about meshes of nothing, of points alone, and of a triangle with sides that are Fixed, or segments that are not.
func TestFewThings(t *testing.T) {
	hold(t, api.Mesh{}, nil, polyOf(1))
	hold(t, api.Mesh{Points: []api.Point{at(1, 2), at(1, 2)}}, ints(3, 4), polyOf(5))
	if a, e := estimate.Total(api.Mesh{}, nil, polyOf(1)); a != rat.Of(0) || e != api.OK {
		t.Errorf("P21.1: nothing: %v, error %d", a, e)
	}
	if a, e := estimate.Energy2(api.Mesh{}, nil); a != rat.Of(0) || e != api.OK {
		t.Errorf("P21.2: nothing: %v, error %d", a, e)
	}
	for set := range 3 * 3 * 3 {
		three := api.Mesh{Points: []api.Point{at(5, 5), at(0, 0), at(3, 0), at(0, 1)}, Tris: []api.Tri{{3, 1, 2}}}
		for k, part := range []int{set % 3, set / 3 % 3, set / 9} {
			if part > 0 {
				put(&three, api.Seg{A: three.Tris[0][k], B: three.Tris[0][(k+1)%3], Fixed: part == 2})
			}
		}
		hold(t, three, ints(9, 1, -2, 4), polyOf(1, -1, 2, 3, -5, 4))
	}
}

// TestFixedWithin holds that a Fixed segment has no share in either of its triangles, and that one that is not Fixed is no other edge.
func TestFixedWithin(t *testing.T) {
	for _, fixed := range []bool{true, false} {
		m := square(true)
		m.Segs = append(m.Segs, api.Seg{A: 2, B: 0, Fixed: fixed})
		want := ints(0, 0)
		if !fixed {
			want = ints(8, 8)
		}
		if l := hold(t, m, ints(0, 0, 0, 2), polyOf()); !slices.Equal(l, want) {
			t.Errorf("P21.1: Fixed %v: %v", fixed, l)
		}
	}
}

// TestLyingOnOneAnother asks about triangles that lie on one another, about a point and elsewhere.
func TestLyingOnOneAnother(t *testing.T) {
	r := random()
	for i := range 6 {
		m := wheel(r, 9+i, 1+i%3, 4)
		for k, tri := range m.Tris {
			if i > 2 && k%3 == 0 {
				m.Segs = append(m.Segs, api.Seg{A: tri[0], B: tri[1+i%2], Fixed: k%2 == 0})
			}
		}
		hold(t, m, values(r, len(m.Points), 1+i), anyPoly(r, 3))
	}
}

// TestWithinR7 asks about meshes of 12 points, 16 triangles, and 12 bytes in each number: there is always an answer.
func TestWithinR7(t *testing.T) {
	r := random()
	most := 0
	for i := range 8 {
		points := []api.Point(nil)
		for range 12 {
			l := values(r, 2, 12)
			points = append(points, api.Point{X: l[0], Y: l[1]})
		}
		m, e := hull.Build(points)
		must(t, e)
		m.Tris = m.Tris[:min(len(m.Tris), 16)]
		if i%2 == 1 {
			m = tangle(r, points, 16)
		}
		for range 4 * (i / 3) {
			tri, k := m.Tris[r.IntN(len(m.Tris))], r.IntN(3)
			put(&m, api.Seg{A: tri[k], B: tri[(k+1)%3], Fixed: i < 6})
		}
		u, f := values(r, 12, 12), anyPoly(r, 12)
		hold(t, m, u, f)
		a, e := estimate.Total(m, u, f)
		must(t, e)
		most = max(most, longest(a))
	}
	if most < 3500 {
		t.Errorf("%d bytes: not so long a sum as there may be", most)
	}
}

// TestAlike asks about values that have a long denominator in common: what is told is twice as long, and never longer on the way.
func TestAlike(t *testing.T) {
	r := random()
	for _, n := range []int{500, 1500, 2900} {
		m := grid(r, 2, 1, 3)
		hold(t, m, alike(r, len(m.Points), n), polyOf(1, 2, 3))
	}
	m, u := square(false), slices.Repeat([]api.Rat{ratOf(new(big.Rat).SetInt(natural(r, 3000)))}, 4)
	u[1] = rat.Of(-7)
	hold(t, m, u, polyOf(1))
	m.Tris, m.Segs = m.Tris[:1], m.Segs[:2]
	hold(t, m, []api.Rat{ratOf(new(big.Rat).SetFrac(big.NewInt(1), natural(r, 3000))), rat.Of(0), rat.Of(0), rat.Of(0)}, polyOf())
}

// TestUnlike asks about values that have nothing in common: whole numbers in their place would be too long, and the sum of all is; what each triangle is told is not.
func TestUnlike(t *testing.T) {
	r := random()
	m := grid(r, 4, 0, 10)
	u, f := values(r, len(m.Points), 330), polyOf(3, 2, 1)
	if l, e := estimate.Each(m, u, f); !slices.Equal(l, wantEach(m, u, f)) || e != api.OK {
		t.Errorf("P21.1: %d numbers, error %d", len(l), e)
	}
	if a, e := estimate.Total(m, u, f); a != (api.Rat{}) || e != api.ErrLimit || longest(wantTotal(wantEach(m, u, f))) <= 8000 {
		t.Errorf("R7: %d bytes, error %d", longest(a), e)
	}
	if a, e := estimate.Energy2(m, u); a != (api.Rat{}) || e != api.ErrLimit || longest(wantEnergy2(m, u)) <= 8000 {
		t.Errorf("R7: %d bytes, error %d", longest(a), e)
	}
	apart := api.Mesh{} // two triangles, of which either has long values in common with the other's none
	apart.Points = []api.Point{at(0, 0), at(1, 0), at(0, 1), at(5, 5), at(7, 5), at(5, 6)}
	apart.Tris = []api.Tri{{0, 1, 2}, {3, 4, 5}}
	u = append(alike(r, 3, 2400), alike(r, 3, 2400)...)
	if l, e := estimate.Each(apart, u, f); !slices.Equal(l, wantEach(apart, u, f)) || e != api.OK {
		t.Errorf("P21.1: %d numbers, error %d", len(l), e)
	}
}

// TestTooLong asks about slopes that are too long; they are not asked for, where all edges are Fixed segments.
func TestTooLong(t *testing.T) {
	r := random()
	m, f := square(false), polyOf(1)
	u := values(r, 4, 3000)
	if l, e := estimate.Each(m, u, f); len(l) != 0 || e != api.ErrLimit {
		t.Errorf("R7: %d numbers, error %d", len(l), e)
	}
	if a, e := estimate.Total(m, u, f); a != (api.Rat{}) || e != api.ErrLimit {
		t.Errorf("R7: %d bytes, error %d", longest(a), e)
	}
	if a, e := estimate.Energy2(m, u); a != (api.Rat{}) || e != api.ErrLimit {
		t.Errorf("R7: %d bytes, error %d", longest(a), e)
	}
	m = square(true)
	m.Segs = append(m.Segs, api.Seg{A: 0, B: 2, Fixed: true})
	if l, e := estimate.Each(m, u, f); !slices.Equal(l, ints(4, 4)) || e != api.OK {
		t.Errorf("P21.1: all edges Fixed: %v, error %d", l, e)
	}
	if a, e := estimate.Total(m, u, f); a != rat.Of(8) || e != api.OK {
		t.Errorf("P21.1: all edges Fixed: %v, error %d", a, e)
	}
}

// TestGreatMeshes asks about as many points as there may be.
func TestGreatMeshes(t *testing.T) {
	r := random()
	m := grid(r, 19, 0, 300)
	if len(m.Points) != 400 {
		t.Fatalf("%d points", len(m.Points))
	}
	hold(t, m, alike(r, 400, 30), polyOf(1, 2, 3, 4, 5, 6))
}

// TestNewMemory holds that nothing handed in is changed, nor its spare room, that what is answered shares no memory with it, and that the same is answered again.
func TestNewMemory(t *testing.T) {
	r := random()
	m := grid(r, 3, 3, 6)
	u := values(r, len(m.Points), 3)
	m.Points, m.Tris, m.Segs, u = append(m.Points, at(7, 7)), append(m.Tris, api.Tri{7, 7, 7}), append(m.Segs, api.Seg{A: 7, B: 7}), append(u, rat.Of(7))
	given, givenU := clonedMesh(m), slices.Clone(u)
	few := api.Mesh{Points: m.Points[:len(m.Points)-1], Tris: m.Tris[:len(m.Tris)-1], Segs: m.Segs[:len(m.Segs)-1]}
	for range 3 {
		l, e := estimate.Each(few, u[:len(u)-1], polyOf(1, 2))
		must(t, e)
		if !slices.Equal(l, wantEach(few, u, polyOf(1, 2))) {
			t.Errorf("R6: asked again, %v", l)
		}
		clear(l[:cap(l)])
		hold(t, few, u[:len(u)-1], polyOf(2, 1))
		if !sameMesh(m, given) || !slices.Equal(u, givenU) {
			t.Fatal("R5: what was handed in is changed")
		}
	}
}
