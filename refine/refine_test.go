package refine_test

import (
	"math/big"
	"slices"
	"testing"

	"gusset/api"
	"gusset/mesh"
	"gusset/plan"
	"gusset/rat"
	"gusset/refine"
)

// hold holds an answer of Refine against the words, where there is one. It tells whether there is.
func hold(t *testing.T, m api.Mesh, sizes []api.Size, picks []int, budget int) (api.Mesh, bool) {
	t.Helper()
	n, e := refine.Refine(m, sizes, picks, budget)
	if e == api.ErrBudget && none(n) {
		return n, false
	}
	if e != api.OK {
		t.Fatalf("P16.2: error %d, and %v", e, n)
	}
	if e := mesh.Check(n); e != api.OK || !wantTidy(n) {
		t.Fatalf("P16.2: error %d, tidy: %v: %v", e, wantTidy(n), n)
	}
	if crowded, bad := wantCrowded(n), wantBad(n, sizes); len(crowded)+len(bad) > 0 {
		t.Fatalf("P16.2: %v are crowded, %v are bad: %v", crowded, bad, n)
	}
	if len(n.Points) > budget && !same(n, m) {
		t.Fatalf("P16.2: %d points, but no more than %d", len(n.Points), budget)
	}
	if !slices.Equal(n.Points[:len(m.Points)], m.Points) {
		t.Fatalf("P16.2: the points do not stand first: %v", n.Points)
	}
	for _, p := range n.Points {
		if max(len(p.X.Num.Mag), len(p.X.Den), len(p.Y.Num.Mag), len(p.Y.Den)) > 50 {
			t.Fatalf("P16.2: the point %v", p)
		}
	}
	holdCover(t, m, n)
	holdSegs(t, m, n)
	if again, e := refine.Refine(n, sizes, picks, 0); !same(again, n) || e != api.OK {
		t.Fatalf("P16.4: refined again: error %d, %v, not %v", e, again, n)
	}
	return n, true
}

// holdCover holds that triangles cover just what those of m cover: they are as great, lie apart, and each has its middle in one of those.
func holdCover(t *testing.T, m, n api.Mesh) {
	t.Helper()
	was, _ := mesh.Area2(m)
	if is, e := mesh.Area2(n); is != was || e != api.OK {
		t.Fatalf("P16.2: the area %v, not %v", is, was)
	}
	l, k := places(m.Points), places(n.Points)
	for _, u := range n.Tris {
		middle := place{new(big.Rat), new(big.Rat)}
		for _, v := range u {
			middle = place{plus(middle.x, times(k[v].x, small(1, 3))), plus(middle.y, times(k[v].y, small(1, 3)))}
		}
		for _, p := range []place{middle, k[u[0]], k[u[1]], k[u[2]]} {
			if !slices.ContainsFunc(m.Tris, func(s api.Tri) bool {
				a, b, c := l[s[0]], l[s[1]], l[s[2]]
				return min(turn(a, b, p), turn(b, c, p), turn(c, a, p)) >= 0
			}) {
				t.Fatalf("P16.2: %v lies outside", u)
			}
		}
	}
}

// holdSegs holds that segments are parts of those of m, with their Fixed, and together those.
func holdSegs(t *testing.T, m, n api.Mesh) {
	t.Helper()
	l, k := places(m.Points), places(n.Points)
	long := func(a, b place) *big.Rat { // in X and Y together: along a line that is as good as in all
		x, y := minus(a.x, b.x), minus(a.y, b.y)
		return plus(x.Abs(x), y.Abs(y))
	}
	sums := map[bool]*big.Rat{false: new(big.Rat), true: new(big.Rat)}
	for _, s := range n.Segs {
		if !slices.ContainsFunc(m.Segs, func(u api.Seg) bool {
			return u.Fixed == s.Fixed && on(l[u.A], l[u.B], k[s.A]) && on(l[u.A], l[u.B], k[s.B])
		}) {
			t.Fatalf("P16.2: the segment %v is a part of none", s)
		}
		sums[s.Fixed] = plus(sums[s.Fixed], long(k[s.A], k[s.B]))
	}
	for _, u := range m.Segs {
		sum := new(big.Rat)
		for _, s := range n.Segs {
			if u.Fixed == s.Fixed && on(l[u.A], l[u.B], k[s.A]) && on(l[u.A], l[u.B], k[s.B]) {
				sum = plus(sum, long(k[s.A], k[s.B]))
			}
		}
		if sum.Cmp(long(l[u.A], l[u.B])) < 0 {
			t.Fatalf("P16.2: parts of the segment %v are missing", u)
		}
		sums[u.Fixed] = minus(sums[u.Fixed], long(l[u.A], l[u.B]))
	}
	if sums[false].Sign() != 0 || sums[true].Sign() != 0 {
		t.Fatalf("P16.2: segments stand twice: %v", n.Segs)
	}
}

// holdFar holds that no edge is shorter than the plan and the sizes let it be.
func holdFar(t *testing.T, p api.Plan, sizes []api.Size, n api.Mesh) {
	t.Helper()
	least2, e := plan.Least2(p.Points, p.Segs)
	if e != api.OK {
		t.Fatalf("error %d", e)
	}
	want := bigOf(least2)
	for _, s := range sizes {
		want = least(want, times(bigOf(s.Most2), small(1, 2)))
	}
	if shortest(n).Cmp(want) < 0 {
		t.Errorf("P16.3: an edge has the length %v, squared, not %v: of %v", shortest(n), want, p)
	}
}

// TestPlans refines what comes of plans, whatever picks and sizes there are.
func TestPlans(t *testing.T) {
	r := random()
	done, more := 0, 0
	for i := range 90 {
		p, m := anyPlan(t, r)
		sizes, picks := sizesOf(r, m, i%4), picksOf(r, i%5*20)
		n, found := hold(t, m, sizes, picks, 200)
		if !found {
			continue
		}
		holdFar(t, p, sizes, n)
		done++
		if len(n.Points) > len(m.Points) {
			more++
		}
		if i%3 == 0 { // and anew, by sizes more
			sizes = append(sizes, sizesOf(r, m, 2)...)
			if n, found := hold(t, n, sizes, picks, 300); found {
				holdFar(t, p, sizes, n)
			}
		}
	}
	if done < 85 || more < 70 {
		t.Errorf("%d are refined, %d of them by points more", done, more)
	}
}

// TestLongPlans does so with longer numbers.
func TestLongPlans(t *testing.T) {
	r := random()
	done := 0
	for i := range 24 {
		p, _ := anyPlan(t, r)
		p.Holes = nil
		larger2 := new(big.Rat)
		p.Points, larger2 = drawn(r, p.Points, 1+i/2)
		m, found := domain(t, p)
		if !found {
			continue
		}
		sizes := []api.Size{{Centre: m.Points[0], Within2: rat.Of(1), Most2: ratOf(times(larger2, small(40, 1)))}}
		if max(len(sizes[0].Most2.Num.Mag), len(sizes[0].Most2.Den)) > 50 {
			sizes = nil
		}
		if n, found := hold(t, m, sizes, picksOf(r, i), 200); found {
			holdFar(t, p, sizes, n)
			done++
		}
	}
	if done < 20 {
		t.Errorf("%d are refined", done)
	}
}

// TestWedges refines about segments that meet in little more than 60 degrees, of all lengths.
func TestWedges(t *testing.T) {
	r := random()
	for i := range 40 {
		l := []api.Point{at(0, 0), at(60, 0), at(60, 60), at(0, 60), at(20, 20), at(20+1+r.IntN(35), 20)}
		slope := [][2]int{{4, 7}, {15, 26}, {1, 2}, {11, 20}}[i%4]
		long := 1 + r.IntN(35/slope[1])
		l = append(l, at(20+slope[0]*long, 20+slope[1]*long))
		p := api.Plan{Points: l, Segs: []api.Seg{{A: 0, B: 1}, {A: 1, B: 2}, {A: 2, B: 3}, {A: 3, B: 0}, {A: 4, B: 5, Fixed: true}, {A: 6, B: 4}}}
		for k := range p.F {
			p.F[k], p.G[k] = rat.Of(0), rat.Of(0)
		}
		m, _ := domain(t, p)
		sizes := sizesOf(r, m, i%3)
		n, found := hold(t, m, sizes, picksOf(r, i), 400)
		if !found {
			t.Fatalf("P16.2: none of %v, %v", l, sizes)
		}
		holdFar(t, p, sizes, n)
	}
}

// TestExample is the chapter's, and the square with finer and finer sizes.
func TestExample(t *testing.T) {
	m := square()
	if n, e := refine.Refine(m, nil, nil, 0); !same(n, m) || e != api.OK {
		t.Errorf("P16.2: %v, error %d", n, e)
	}
	last := len(m.Points)
	for _, most2 := range []*big.Rat{small(2, 1), small(1, 1), small(1, 3), small(1, 10), small(1, 30)} {
		sizes := []api.Size{{Centre: at(1, 1), Within2: rat.Of(4), Most2: ratOf(most2)}}
		n, found := hold(t, m, sizes, nil, 300)
		if !found || len(n.Points) < last {
			t.Errorf("P16.2: with %v: %d points", most2, len(n.Points))
		}
		last = len(n.Points)
	}
	if last < 50 {
		t.Errorf("P16.2: %d points", last)
	}
}

// TestFar asks for a size that is far from all triangles' centres, or from those that are great enough.
func TestFar(t *testing.T) {
	m := square()
	for _, c := range []struct {
		centre    api.Point
		within2   int
		untouched bool
	}{{at(1, 1), 0, false}, {at(2, 1), 0, true}, {at(2, 1), 1, false}, {at(4, 5), 24, true}, {at(4, 5), 25, false}} {
		sizes := []api.Size{{Centre: c.centre, Within2: rat.Of(c.within2), Most2: rat.Of(1)}}
		n, found := hold(t, m, sizes, nil, 100)
		if !found || same(n, m) != c.untouched {
			t.Errorf("P16.2: %v: %d points", c, len(n.Points))
		}
	}
}

// TestBudgets gives each number of points, up to what is needed.
func TestBudgets(t *testing.T) {
	m := thin()
	n, found := hold(t, m, nil, nil, 400)
	if !found || len(n.Points) < 10 {
		t.Fatalf("P16.2: %d points", len(n.Points))
	}
	for budget := range len(n.Points) + 3 {
		if got, found := hold(t, m, nil, nil, budget); found != (budget >= len(n.Points)) || found && !same(got, n) {
			t.Errorf("P16.2: with %d, where %d are needed: %d points", budget, len(n.Points), len(got.Points))
		}
	}
}

// TestPicks holds that picks choose, that what they choose is right, and that they may be any numbers.
func TestPicks(t *testing.T) {
	m, kinds := thin(), map[int]int{}
	sizes := []api.Size{{Centre: at(4, 0), Within2: rat.Of(4), Most2: ratOf(small(1, 4))}}
	meshes := []api.Mesh(nil)
	r := random()
	for i := range 20 {
		picks := picksOf(r, i)
		n, found := hold(t, m, sizes, picks, 300)
		if !found {
			t.Fatalf("P16.2: none with %v", picks)
		}
		if !slices.ContainsFunc(meshes, func(o api.Mesh) bool { return same(n, o) }) {
			meshes = append(meshes, n)
		}
		kinds[len(n.Points)]++
	}
	if len(meshes) < 3 {
		t.Errorf("P16.2: picks choose nothing: %v", kinds)
	}
	for _, picks := range [][]int{{-1 << 63}, {1<<63 - 1, -1 << 63, 0}, slices.Repeat([]int{-7}, 10000)} {
		if _, found := hold(t, m, sizes, picks, 300); !found {
			t.Errorf("P16.2: none with %v", picks[:1])
		}
	}
}

// TestPiles refines tidy meshes that no plan makes: with sharp angles, gaps, points in one place, triangles that meet in part of an edge.
func TestPiles(t *testing.T) {
	r := random()
	done := [2]int{}
	for i := range 120 {
		m := pile(r, 6+i%6, 4+i%5, 60, i%3 == 0)
		if _, found := hold(t, m, sizesOf(r, m, i%2), picksOf(r, i%9), 90); found {
			done[0]++
		} else {
			done[1]++
		}
	}
	if min(done[0], done[1]) < 20 {
		t.Errorf("refined, and too many points: %v", done)
	}
}

// TestSeams refines meshes in which points have one place twice, and triangles meet an edge from two sides in unlike parts.
func TestSeams(t *testing.T) {
	sides := func(m api.Mesh, fixed bool) api.Mesh {
		edges, _ := mesh.Edges(m)
		for _, e := range edges {
			if third(m, e[0], e[1]) < 0 || third(m, e[1], e[0]) < 0 {
				m.Segs = append(m.Segs, api.Seg{A: e[0], B: e[1], Fixed: fixed && len(m.Segs)%2 == 0})
			}
		}
		return m
	}
	for name, m := range map[string]api.Mesh{
		"a slit": {
			Points: []api.Point{at(0, 0), at(4, 0), at(4, 4), at(0, 4), at(0, 0), at(4, 4)},
			Tris:   []api.Tri{{0, 1, 2}, {4, 5, 3}},
		},
		"a slit from a corner": {
			Points: []api.Point{at(0, 0), at(4, 0), at(4, 4), at(0, 4), at(2, 2), at(0, 0)},
			Tris:   []api.Tri{{0, 1, 4}, {1, 2, 4}, {2, 3, 4}, {3, 5, 4}},
		},
		"a step": {
			Points: []api.Point{at(0, 0), at(8, 0), at(4, 7), at(4, -3), at(4, 0)},
			Tris:   []api.Tri{{0, 1, 2}, {0, 3, 4}, {4, 3, 1}},
		},
		"triangles that meet in a corner": {
			Points: []api.Point{at(0, 0), at(4, 0), at(2, 3), at(4, 6), at(0, 6), at(9, 9)},
			Tris:   []api.Tri{{0, 1, 2}, {2, 3, 4}},
		},
	} {
		for _, fixed := range []bool{false, true} {
			m := sides(cloned(m), fixed)
			for _, most2 := range []int{9, 3, 1} {
				n, found := hold(t, m, []api.Size{{Centre: at(2, 2), Within2: rat.Of(50), Most2: rat.Of(most2)}}, nil, 300)
				if !found || most2 == 1 && len(n.Points) < len(m.Points)+4 {
					t.Errorf("P16.2: %s, with %d: %v", name, most2, n)
				}
			}
		}
	}
}

// TestMost goes to the edge of what may be: 400 points, with as many as are needed, and with more.
func TestMost(t *testing.T) {
	m := square()
	size := func(most2 *big.Rat) []api.Size {
		return slices.Repeat([]api.Size{{Centre: at(1, 1), Within2: rat.Of(9), Most2: ratOf(most2)}}, 100)
	}
	n, e := refine.Refine(m, size(small(1, 90)), nil, 400)
	bad, f := refine.Bad(n, size(small(1, 90)))
	crowded, g := refine.Crowded(n)
	if e != api.OK || f != api.OK || g != api.OK || len(n.Points) < 200 || len(bad)+len(crowded) > 0 || !slices.Equal(bad, wantBad(n, size(small(1, 90))[:1])) {
		t.Errorf("P16.2: %d points, errors %d, %d, %d, %v are bad, %v are crowded", len(n.Points), e, f, g, bad, crowded)
	}
	if n, e := refine.Refine(m, size(small(1, 1000)), nil, 400); e != api.ErrBudget || !none(n) {
		t.Errorf("P16.2: %d points, error %d", len(n.Points), e)
	}
}

// square is that of the chapter's example; thin is one that is all slender.
func square() api.Mesh {
	return api.Mesh{Points: []api.Point{at(0, 0), at(2, 0), at(2, 2), at(0, 2)}, Tris: []api.Tri{{0, 1, 2}, {0, 2, 3}}, Segs: []api.Seg{{A: 0, B: 1, Fixed: true}, {A: 1, B: 2}, {A: 2, B: 3}, {A: 3, B: 0}}}
}

func thin() api.Mesh {
	return api.Mesh{Points: []api.Point{at(0, 0), at(9, 0), at(9, 1), at(0, 1)}, Tris: []api.Tri{{0, 1, 2}, {0, 2, 3}}, Segs: []api.Seg{{A: 1, B: 0}, {A: 1, B: 2}, {A: 2, B: 3, Fixed: true}, {A: 0, B: 3}}}
}
