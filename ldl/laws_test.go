package ldl_test

import (
	"math/rand/v2"
	"slices"
	"testing"

	"gusset/api"
	"gusset/carve"
	"gusset/cdt"
	"gusset/ldl"
	"gusset/rat"
	"gusset/refine"
	"gusset/system"
)

func at(x, y int) api.Point { return api.Point{X: rat.Of(x), Y: rat.Of(y)} }

func polyOf(l ...int) api.Poly {
	out := api.Poly{}
	for i := range out {
		out[i] = rat.Of(0)
		if i < len(l) {
			out[i] = rat.Of(l[i])
		}
	}
	return out
}

// net is a mesh of squares, n by n, each of two triangles by either diagonal, from a corner on that is the more to the right the greater shift is.
func net(r *rand.Rand, n int, shift int) api.Mesh {
	m := api.Mesh{}
	for i := range (n + 1) * (n + 1) {
		m.Points = append(m.Points, at(shift+3*(i%(n+1)), i/(n+1)))
	}
	for i := range n * n {
		a := i%n + i/n*(n+1)
		b, c, d := a+1, a+n+2, a+n+1
		if r.IntN(2) == 0 {
			a, b, c, d = b, c, d, a
		}
		m.Tris = append(m.Tris, api.Tri{a, b, c}, api.Tri{a, c, d})
	}
	return m
}

// joined is two meshes as one: they are parts of it.
func joined(m, o api.Mesh) api.Mesh {
	n := len(m.Points)
	out := api.Mesh{Points: append(slices.Clone(m.Points), o.Points...), Tris: slices.Clone(m.Tris), Segs: slices.Clone(m.Segs)}
	for _, t := range o.Tris {
		out.Tris = append(out.Tris, api.Tri{t[0] + n, t[1] + n, t[2] + n})
	}
	for _, s := range o.Segs {
		out.Segs = append(out.Segs, api.Seg{A: s.A + n, B: s.B + n, Fixed: s.Fixed})
	}
	return out
}

// TestMeshes holds that the equations of a mesh are positive definite just if every part has something held.
func TestMeshes(t *testing.T) {
	r := random()
	f, g := polyOf(1, 2, -1, 3, 0, 1), polyOf(1, -1, 2, 0, 5, 1)
	for i := range 24 {
		m, o := net(r, 1+i%4, 0), net(r, 1+i%3, 100)
		heldM, heldO := i%4 < 2, i%2 == 0
		m.Segs, o.Segs = []api.Seg{{A: 0, B: 1, Fixed: heldM}}, []api.Seg{{A: o.Tris[0][0], B: o.Tris[0][1], Fixed: heldO}}
		s, e := system.Build(joined(m, o), f, g)
		must(t, e)
		if hold(t, s) != (heldM && heldO) {
			t.Errorf("P19.4: held %v, %v", heldM, heldO)
		}
	}
}

// TestRefined asks about a mesh as it comes from the layers below, and holds that its equations are solved.
func TestRefined(t *testing.T) {
	points := []api.Point{at(0, 0), at(7, 0), at(8, 5), at(3, 9), at(0, 6)}
	sides := []api.Seg{{A: 0, B: 1, Fixed: true}, {A: 1, B: 2, Fixed: true}, {A: 2, B: 3}, {A: 3, B: 4}, {A: 4, B: 0, Fixed: true}}
	m, e := cdt.Build(points, sides)
	must(t, e)
	m, e = carve.Cut(m, nil)
	must(t, e)
	for _, most := range []int{9, 4, 1} {
		fine, e := refine.Refine(m, []api.Size{{Centre: at(4, 4), Within2: rat.Of(100), Most2: rat.Of(most)}}, nil, 200)
		must(t, e)
		s, e := system.Build(fine, polyOf(1, 1), polyOf(0, 1, 2, 0, 0, 1))
		must(t, e)
		if !hold(t, s) {
			t.Errorf("P19.4: %d points: not positive definite", len(fine.Points))
		}
	}
}

// ordered is a system with its unknowns in another order: its unknown i is the given one's unknown places[i].
func ordered(s api.System, places []int) api.System {
	m, out, right := full(s), zeros(len(s.Rows)), []api.Rat(nil)
	for i := range out {
		for k := range out {
			out[i][k] = m[places[i]][places[k]]
		}
		right = append(right, s.Right[places[i]])
	}
	return systemOf(out, right)
}

// TestOtherOrders holds that values do not hang on the order of the unknowns.
func TestOtherOrders(t *testing.T) {
	r := random()
	for i := range 60 {
		s := heavy(r, 1+i%9, 1+i%3, 40)
		if i%10 == 0 {
			s = grid(3 + i/10)
		}
		places := r.Perm(len(s.Rows))
		x, e := ldl.Solve(s)
		y, f := ldl.Solve(ordered(s, places))
		if e != f {
			t.Errorf("P19.4: errors %d, %d", e, f)
		}
		for k := range y {
			if y[k] != x[places[k]] {
				t.Errorf("P19.4: %v: %v, and %v", places, x, y)
			}
		}
	}
}

// TestSums holds that values of the sum of two right sides are the sums of values.
func TestSums(t *testing.T) {
	r := random()
	for i := range 30 {
		s := grid(1 + i%5)
		if i%3 > 0 {
			s = systemOf(products(1+i%7, 1+i%7), nil)
		}
		n := len(s.Rows)
		x, y, sum := cloned(s), cloned(s), cloned(s)
		x.Right, y.Right, sum.Right = values(r, n, 3), values(r, n, 2), nil
		for k := range n {
			sum.Right = append(sum.Right, ratOf(plus(bigOf(x.Right[k]), bigOf(y.Right[k]))))
		}
		ofX, e := ldl.Solve(x)
		must(t, e)
		ofY, e := ldl.Solve(y)
		must(t, e)
		ofSum, e := ldl.Solve(sum)
		must(t, e)
		for k := range n {
			if ofSum[k] != ratOf(plus(bigOf(ofX[k]), bigOf(ofY[k]))) {
				t.Errorf("P19.4: case %d, unknown %d", i, k)
			}
		}
	}
}
