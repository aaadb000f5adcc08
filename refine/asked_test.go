package refine_test

import (
	"math/big"
	"math/rand/v2"
	"slices"
	"testing"

	"gusset/api"
	"gusset/cdt"
	"gusset/cons"
	"gusset/mesh"
	"gusset/rat"
	"gusset/refine"
)

// woven is a triangulation of points, with some of its edges as segments.
func woven(t *testing.T, r *rand.Rand, l []api.Point) api.Mesh {
	t.Helper()
	m, e := cdt.Build(l, nil)
	if e != api.OK {
		t.Fatalf("error %d", e)
	}
	edges, _ := mesh.Edges(m)
	for _, e := range edges {
		if k := r.IntN(4); k < 2 {
			m.Segs = append(m.Segs, api.Seg{A: e[k], B: e[1-k], Fixed: true})
		}
	}
	return m
}

// asked holds Bad and Crowded against the words, and tells how many triangles are bad, and segments crowded.
func asked(t *testing.T, m api.Mesh, sizes []api.Size) (int, int) {
	t.Helper()
	bad, e := refine.Bad(m, sizes)
	if want := wantBad(m, sizes); !slices.Equal(bad, want) || e != api.OK {
		t.Fatalf("P16.1: %v, error %d, not %v: of %v, %v", bad, e, want, m, sizes)
	}
	crowded, e := refine.Crowded(m)
	if want := wantCrowded(m); !slices.Equal(crowded, want) || e != api.OK {
		t.Fatalf("P16.1: %v, error %d, not %v: of %v", crowded, e, want, m)
	}
	return len(bad), len(crowded)
}

// TestAsked asks about triangulations of points of a grid, where many angles are right ones, and of such that are drawn elsewhere; and about triangles that lie on one another.
func TestAsked(t *testing.T) {
	r := random()
	bad, crowded, all := 0, 0, 0
	for i := range 150 {
		l := append(scatter(r, 3+i%15, 2+r.IntN(6), 2+r.IntN(6)), at(20, 21))
		if i%5 == 0 {
			l, _ = drawn(r, l, 1+i/12)
		}
		m := woven(t, r, l)
		b, c := asked(t, m, sizesOf(r, m, i%4))
		bad, crowded, all = bad+b, crowded+c, all+len(m.Tris)
		asked(t, heap(r, 5, 4, 20, 10), sizesOf(r, m, i%4))
	}
	if bad < 100 || crowded < 100 || bad > all*9/10 {
		t.Errorf("%d of %d are bad, %d are crowded", bad, all, crowded)
	}
}

// TestEdges asks about triangles that are just not great: whose circle's centre is just as far as it may be, and whose radius is just as great; and a bit on either side.
func TestEdges(t *testing.T) {
	r := random()
	bit := small(1, 1<<40)
	for range 60 {
		m := woven(t, r, append(scatter(r, 3, 5, 5), at(9, 8)))
		tri := m.Tris[r.IntN(len(m.Tris))]
		centre, radius2 := circle(placeOf(m.Points[tri[0]]), placeOf(m.Points[tri[1]]), placeOf(m.Points[tri[2]]))
		where := at(r.IntN(9), r.IntN(9))
		within2 := far(centre, placeOf(where))
		for _, most2 := range []*big.Rat{radius2, minus(radius2, bit), plus(radius2, bit)} {
			for _, within2 := range []*big.Rat{within2, minus(within2, bit), plus(within2, bit)} {
				if within2.Sign() >= 0 {
					asked(t, m, []api.Size{{Centre: where, Within2: ratOf(within2), Most2: ratOf(most2)}})
				}
			}
		}
	}
}

// TestSlender asks about triangles with an angle nearer and nearer to the one where they become slender: its tangent is 1 over the root of 7. (There is none with rational corners.)
func TestSlender(t *testing.T) {
	seen := map[bool]int{}
	x, y := big.NewInt(8), big.NewInt(3) // 64 is 7 times 9, and 1
	for len(x.Bytes()) < 40 {
		for _, near := range []int64{-1, 0, 1} {
			top := place{new(big.Rat).SetInt(x), new(big.Rat).SetInt(new(big.Int).Add(y, big.NewInt(near)))}
			long := new(big.Rat).SetInt(new(big.Int).Mul(y, big.NewInt(2)))
			long = plus(long, over(long, small(2, 1))) // about as long as the way to the top
			m := api.Mesh{
				Points: []api.Point{at(0, 0), {X: ratOf(long), Y: rat.Of(0)}, {X: ratOf(top.x), Y: ratOf(top.y)}},
				Tris:   []api.Tri{{0, 1, 2}},
			}
			b, _ := asked(t, m, nil)
			ratio2, _ := cons.Ratio2(m.Points[0], m.Points[1], m.Points[2])
			order, _ := rat.Cmp(ratio2, rat.Of(2))
			if (b > 0) != (order > 0) {
				t.Errorf("P16.1: %v: %d", m.Points, b)
			}
			seen[b > 0]++
		}
		x, y = new(big.Int).Add(new(big.Int).Mul(x, big.NewInt(8)), new(big.Int).Mul(y, big.NewInt(21))), new(big.Int).Add(new(big.Int).Mul(x, big.NewInt(3)), new(big.Int).Mul(y, big.NewInt(8)))
	}
	if min(seen[false], seen[true]) < 10 {
		t.Errorf("slender or not: %v", seen)
	}
}

// TestRightAngles asks about a corner on a segment's disc, and a bit within it and outside, on either side, of segments that go either way.
func TestRightAngles(t *testing.T) {
	for _, c := range []struct {
		up   int
		want []int
	}{{49, []int{0}}, {50, nil}, {51, nil}} {
		for _, s := range []api.Seg{{A: 0, B: 1}, {A: 1, B: 0}} {
			m := api.Mesh{Points: []api.Point{at(0, 0), at(100, 0), at(50, c.up), at(50, -80)}, Tris: []api.Tri{{0, 1, 2}, {1, 0, 3}}, Segs: []api.Seg{s}}
			for range 2 {
				asked(t, m, nil)
				if l, e := refine.Crowded(m); !slices.Equal(l, c.want) || e != api.OK {
					t.Errorf("P16.1: %v, error %d, not %v", l, e, c.want)
				}
				m.Tris = []api.Tri{{3, 1, 0}, {2, 0, 1}} // the other way round
			}
			m.Tris = []api.Tri{{0, 1, 2}}
			asked(t, m, nil)
			m.Points[2] = at(50, 90)
			m.Tris = []api.Tri{{0, 1, 2}, {1, 0, 3}}
			m.Points[3] = at(50, -c.up)
			asked(t, m, nil)
		}
	}
}

// TestTidy asks heaps of triangles whether they are tidy: those that are not are refused, ahead of all else but what mesh.Check tells.
func TestTidy(t *testing.T) {
	r := random()
	seen := map[bool]int{}
	for i := range 2500 {
		m := heap(r, 6+i%4, 3+i%5, 12, 2+i%4)
		if i%4 == 0 && len(m.Segs) > 0 { // an edge that is no segment
			m.Segs = slices.Delete(m.Segs, 0, 1)
		}
		if i%50 == 0 {
			m.Points, _ = drawn(r, m.Points, 20)
		}
		tidy := wantTidy(m)
		seen[tidy]++
		n, e := refine.Refine(m, make([]api.Size, 1), nil, -1)
		if (e == api.ErrMesh) == tidy || !none(n) {
			t.Fatalf("P16.2: error %d, tidy: %v: %v", e, tidy, m)
		}
	}
	if min(seen[false], seen[true]) < 500 {
		t.Errorf("tidy or not: %v", seen)
	}
}

// TestUntidy asks about meshes of which one thing is wrong.
func TestUntidy(t *testing.T) {
	inner := func(x, y int) api.Mesh { // a triangle in the midst of another
		return api.Mesh{Points: []api.Point{at(0, 0), at(9, 0), at(0, 9), at(x, y), at(x+1, y), at(x, y+1)}, Tris: []api.Tri{{0, 1, 2}, {3, 4, 5}}}
	}
	fenced := func(m api.Mesh) api.Mesh {
		edges, _ := mesh.Edges(m)
		for _, e := range edges {
			m.Segs = append(m.Segs, api.Seg{A: e[0], B: e[1]})
		}
		return m
	}
	kite := fenced(api.Mesh{Points: []api.Point{at(0, 0), at(9, 0), at(5, 1), at(5, -1)}, Tris: []api.Tri{{0, 1, 2}, {1, 0, 3}}})
	illegal := cloned(kite)
	illegal.Segs = slices.DeleteFunc(illegal.Segs, func(s api.Seg) bool { return s.A+s.B == 1 })
	open := square()
	open.Segs = open.Segs[:3]
	for name, c := range map[string]struct {
		m    api.Mesh
		tidy bool
	}{
		"a square":                         {square(), true},
		"a side that is no segment":        {open, false},
		"a kite across its segment":        {kite, true},
		"a kite that is to be turned":      {illegal, false},
		"one within the other":             {fenced(inner(2, 2)), false},
		"one within the other at an edge":  {fenced(inner(0, 3)), false},
		"one within the other at a corner": {fenced(inner(0, 0)), false},
		"one beside the other":             {fenced(inner(9, 9)), true},
		"one below the other":              {fenced(inner(4, -2)), true},
		"one below the other that touches": {fenced(inner(4, -1)), true},
		"one at the other's corner":        {fenced(inner(9, 0)), true},
		"no triangle":                      {api.Mesh{Points: square().Points}, true},
		"nothing":                          {api.Mesh{}, true},
	} {
		n, e := refine.Refine(c.m, nil, nil, 0)
		if (e != api.ErrMesh) != c.tidy || wantTidy(c.m) != c.tidy || e != api.OK && !none(n) {
			t.Errorf("P16.2: %s: error %d, %v", name, e, n)
		}
		if e == api.OK && !same(n, c.m) {
			t.Errorf("P16.4: %s: %v", name, n)
		}
	}
}
