package estimate_test

import (
	"math/big"
	"slices"
	"testing"

	"gusset/api"
	"gusset/estimate"
	"gusset/ldl"
	"gusset/poly"
	"gusset/rat"
	"gusset/system"
)

// linearly is a function's values at the points of a mesh.
func linearly(t *testing.T, m api.Mesh, g api.Poly) []api.Rat {
	t.Helper()
	out := []api.Rat(nil)
	for _, p := range m.Points {
		v, e := poly.Eval(g, p)
		must(t, e)
		out = append(out, v)
	}
	return out
}

// TestLinearEverywhere holds that of values that are linear everywhere, with f 0, each triangle is told 0 that has nothing but Fixed segments, and triangles across; and that an edge with nothing at all counts, unless the slope goes along it.
func TestLinearEverywhere(t *testing.T) {
	r := random()
	for i := range 12 {
		m := framed(grid(r, 1+i%4, 0, 0))
		if i%2 == 1 {
			m = drawn(r, m, 1+i/3)
		}
		g := anyPoly(r, 1+i)
		g[3], g[4], g[5] = rat.Of(0), rat.Of(0), rat.Of(0)
		u := linearly(t, m, g)
		if l := hold(t, m, u, polyOf()); slices.ContainsFunc(l, func(a api.Rat) bool { return a != rat.Of(0) }) {
			t.Errorf("P21.3: case %d: %v", i, l)
		}
		if a, e := estimate.Total(m, u, polyOf()); a != rat.Of(0) || e != api.OK {
			t.Errorf("P21.3: case %d: %v, error %d", i, a, e)
		}
		m.Segs[0].Fixed = false
		if a, e := estimate.Total(m, u, polyOf()); a == rat.Of(0) || a.Num.Neg || e != api.OK {
			t.Errorf("P21.1: case %d: a side is not Fixed: %v, error %d", i, a, e)
		}
	}
}

// TestEnergy holds that Energy2 is the sum of u times system.Times of u, where nothing is held.
func TestEnergy(t *testing.T) {
	r := random()
	for i := range 12 {
		m := grid(r, 1+i%4, 0, 0)
		if i%2 == 1 {
			m = drawn(r, m, 1+i/3)
		}
		u := values(r, len(m.Points), 1+i/3)
		s, e := system.Build(m, anyPoly(r, 2), anyPoly(r, 2))
		must(t, e)
		l, e := system.Times(s, u)
		must(t, e)
		sum := new(big.Rat)
		for k, v := range u {
			sum = plus(sum, times(bigOf(v), bigOf(l[k])))
		}
		if a, e := estimate.Energy2(m, u); a != ratOf(sum) || e != api.OK {
			t.Errorf("P21.3: case %d: %v, error %d", i, a, e)
		}
	}
}

// TestSolved asks about values that solve a mesh's equations: they have much in common.
func TestSolved(t *testing.T) {
	r := random()
	for i := range 4 {
		m := framed(drawn(r, grid(r, 3+i, 0, 0), 1))
		f, g := anyPoly(r, 1), anyPoly(r, 1)
		s, e := system.Build(m, f, g)
		must(t, e)
		u, e := ldl.Solve(s)
		must(t, e)
		hold(t, m, u, f)
	}
}

// TestMultiples holds that values three times as great, with a load as much greater, are nine times as wrong, and that what is added to all values changes nothing.
func TestMultiples(t *testing.T) {
	r := random()
	for i := range 8 {
		m := grid(r, 1+i%4, i%3, 5)
		u, f, add := values(r, len(m.Points), 1+i), anyPoly(r, 2), fraction(r, 3)
		greater, threefold := []api.Rat(nil), api.Poly{}
		for _, v := range u {
			greater = append(greater, ratOf(plus(add, times(small(3, 1), bigOf(v)))))
		}
		for k, c := range f {
			threefold[k] = ratOf(times(small(3, 1), bigOf(c)))
		}
		before, e := estimate.Each(m, u, f)
		must(t, e)
		after, e := estimate.Each(m, greater, threefold)
		must(t, e)
		for k, a := range before {
			if after[k] != ratOf(times(small(9, 1), bigOf(a))) {
				t.Errorf("P21.1: case %d: triangle %d: %v, not nine times %v", i, k, after[k], a)
			}
		}
	}
}
