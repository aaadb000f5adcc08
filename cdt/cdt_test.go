package cdt_test

import (
	"math/rand/v2"
	"slices"
	"testing"

	"gusset/api"
	"gusset/cdt"
	"gusset/hull"
	"gusset/mesh"
)

// hold holds Build against the words, for points that may be asked, no two of them one, and segments with right ends. It tells whether there is a mesh.
func hold(t *testing.T, l []api.Point, segs []api.Seg) bool {
	t.Helper()
	all, want := places(l), api.OK
	switch {
	case flat(all):
		want = api.ErrFlat
	case wantCross(all, segs):
		want = api.ErrCross
	}
	m, e := cdt.Build(l, segs)
	if e != want {
		t.Fatalf("P14.1: error %d, not %d: %v, %v", e, want, all, segs)
	}
	if e != api.OK {
		if len(m.Points)+len(m.Tris)+len(m.Segs) != 0 {
			t.Fatalf("R3: beside error %d: %v", e, m)
		}
		return false
	}
	if !slices.Equal(m.Points, l) || !slices.Equal(m.Segs, segs) || mesh.Check(m) != api.OK {
		t.Fatalf("P14.1: %v, %v: error %d", m.Points, m.Segs, mesh.Check(m))
	}
	holdCover(t, all, m)
	if legal, e := cdt.Legal(m); !legal || e != api.OK || !wantLegal(m) {
		t.Fatalf("P14.1: legal: %v, error %d; by the words: %v: %v, %v", legal, e, wantLegal(m), all, segs)
	}
	holdSeen(t, all, m)
	return true
}

// holdCover holds that the triangles cover the hull once: none lie on one another, and they are as great as those of hull.Build.
func holdCover(t *testing.T, l []place, m api.Mesh) {
	t.Helper()
	for i, u := range m.Tris {
		for _, v := range m.Tris[:i] {
			if !apart(l, u, v) {
				t.Fatalf("P14.1: %v and %v lie on one another", u, v)
			}
		}
	}
	for _, s := range m.Segs {
		if find(m.Tris, s.A, s.B) < 0 && find(m.Tris, s.B, s.A) < 0 {
			t.Fatalf("P14.1: the segment %v is no edge", s)
		}
	}
	free, _ := hull.Build(m.Points)
	want, _ := mesh.Area2(free)
	if sum, _ := mesh.Area2(m); sum != want || len(m.Tris) != len(free.Tris) {
		t.Fatalf("P14.1: %d triangles with the area %v, not %d with %v", len(m.Tris), sum, len(free.Tris), want)
	}
}

// holdSeen holds that no point within a triangle's circle is seen from some places in the triangle.
func holdSeen(t *testing.T, l []place, m api.Mesh) {
	t.Helper()
	for _, tri := range m.Tris {
		corners := []place{l[tri[0]], l[tri[1]], l[tri[2]]}
		centre, radius := circle(corners[0], corners[1], corners[2])
		for v, p := range l {
			if far(centre, p).Cmp(radius) >= 0 {
				continue
			}
			for _, w := range [][]int{{1, 1, 1}, {1, 9, 90}, {90, 1, 9}, {9, 90, 1}, {70, 70, 1}, {1, 70, 70}, {70, 1, 70}} {
				if seen(l, m.Segs, weighed(corners, w...), v) {
					t.Fatalf("P14.3: point %d lies within the circle of %v, and is seen: %v, %v", v, tri, l, m.Segs)
				}
			}
		}
	}
}

// TestRight asks about segments that may be, among points of which many lie in lines and on circles.
func TestRight(t *testing.T) {
	r := random()
	done := 0
	for i := range 150 {
		l := scatter(r, 3+i%20, 2+r.IntN(9), 2+r.IntN(9))
		segs := joined(r, l, i%30, 60)
		if hold(t, l, segs) && len(segs) > 0 {
			done++
		}
		if i%15 == 0 {
			hold(t, drawn(r, l, 1+i/6), segs)
		}
	}
	if done < 100 {
		t.Errorf("%d meshes with segments", done)
	}
}

// TestAny asks about segments as they come: many may not be.
func TestAny(t *testing.T) {
	r := random()
	done := [2]int{}
	for i := range 600 {
		l := scatter(r, 4+i%5, 2+r.IntN(5), 2+r.IntN(5))
		segs := joined(r, l, i%3, 5)
		for range r.IntN(3) {
			s := api.Seg{A: r.IntN(len(l)), B: r.IntN(len(l)), Fixed: r.IntN(2) == 0}
			if s.A != s.B {
				segs = append(segs, s)
			}
		}
		r.Shuffle(len(segs), func(i, j int) { segs[i], segs[j] = segs[j], segs[i] })
		if hold(t, l, segs) {
			done[0]++
		} else {
			done[1]++
		}
	}
	if min(done[0], done[1]) < 100 {
		t.Errorf("meshes and errors: %v", done)
	}
}

// TestFull makes segments of all edges of a triangulation that is far from Delaunay, so that nothing is left to choose; and of all but some.
func TestFull(t *testing.T) {
	r := random()
	for i := range 12 {
		l := scatter(r, 5+i, 9, 9)
		segs := joined(r, l, 100, 2000)
		if !hold(t, l, segs) {
			t.Fatalf("case %d: no mesh", i)
		}
		hold(t, l, segs[:len(segs)/2])
		hold(t, l, segs[len(segs)/2:])
	}
}

// comb is two rows of n points on both sides of a line, and the segment along it, from 0 to 1. Bent rows stick out in the middle, or at the ends; loose ones are pushed to and fro.
func comb(r *rand.Rand, n int, bend int, loose int) ([]api.Point, []api.Seg) {
	l := []api.Point{at(-100, 0), at(100*n, 0)}
	for i := range n {
		out := 1 + n*n
		if bend != 0 {
			out += bend * i * (n - 1 - i)
		}
		l = append(l, at(100*i+r.IntN(loose), out+r.IntN(loose)), at(100*i+r.IntN(loose), -out-r.IntN(loose)))
	}
	return l, []api.Seg{{A: 0, B: 1}}
}

// TestCombs lays a segment across many edges.
func TestCombs(t *testing.T) {
	r := random()
	for n := 1; n <= 9; n++ {
		for _, bend := range []int{0, 1, -1} {
			for _, loose := range []int{1, 3, 40} {
				l, segs := comb(r, n, bend, loose)
				if !hold(t, l, segs) || !hold(t, l, []api.Seg{{A: 1, B: 0, Fixed: true}}) {
					t.Fatalf("a comb of %d: no mesh", n)
				}
			}
		}
	}
	for range 30 { // teeth of all lengths
		l := []api.Point{at(-1, 0), at(50, 0)}
		for i, long := range r.Perm(12) {
			l = append(l, at(r.IntN(50), (1+5*long)*(1-i%2*2)))
		}
		if !hold(t, l, []api.Seg{{A: 0, B: 1}}) {
			t.Fatalf("teeth: no mesh")
		}
	}
}

// TestMeetings asks about each way in which segments and points may meet.
func TestMeetings(t *testing.T) {
	l := []api.Point{at(0, 0), at(4, 0), at(4, 4), at(0, 4), at(2, 2), at(2, 0), at(1, 3), at(6, 0)}
	for i, c := range []struct {
		segs []api.Seg
		want api.Errno
	}{
		{nil, api.OK}, {[]api.Seg{{A: 0, B: 4}, {A: 4, B: 2}}, api.OK}, {[]api.Seg{{A: 0, B: 5}, {A: 5, B: 1}, {A: 1, B: 7}}, api.OK}, // one behind the other
		{[]api.Seg{{A: 0, B: 2}}, api.ErrCross}, {[]api.Seg{{A: 1, B: 0}}, api.ErrCross}, {[]api.Seg{{A: 7, B: 5}}, api.ErrCross}, // a point on it
		{[]api.Seg{{A: 1, B: 3}}, api.ErrCross}, {[]api.Seg{{A: 4, B: 3}}, api.ErrCross},
		{[]api.Seg{{A: 4, B: 6}, {A: 4, B: 6}}, api.ErrCross}, {[]api.Seg{{A: 0, B: 4}, {A: 4, B: 0, Fixed: true}}, api.ErrCross}, // the same ends
		{[]api.Seg{{A: 4, B: 6}, {A: 5, B: 2}}, api.OK}, {[]api.Seg{{A: 5, B: 2}, {A: 4, B: 1}}, api.ErrCross}, // crossing
		{[]api.Seg{{A: 5, B: 3}, {A: 0, B: 4}}, api.ErrCross}, {[]api.Seg{{A: 0, B: 4}, {A: 5, B: 3}}, api.ErrCross}, {[]api.Seg{{A: 5, B: 3}}, api.OK},
		{[]api.Seg{{A: 0, B: 7}}, api.ErrCross}, {[]api.Seg{{A: 0, B: 1}, {A: 5, B: 7}}, api.ErrCross}, // along one another
		{[]api.Seg{{A: 2, B: 7}, {A: 3, B: 2}, {A: 0, B: 3}, {A: 0, B: 5}, {A: 5, B: 1}, {A: 1, B: 7}}, api.OK}, // all round
	} {
		if m, e := cdt.Build(l, c.segs); e != c.want || e != api.OK && len(m.Points)+len(m.Tris)+len(m.Segs) != 0 {
			t.Errorf("P14.1: case %d: error %d, not %d", i, e, c.want)
		}
		hold(t, l, c.segs)
		back := slices.Clone(c.segs)
		slices.Reverse(back)
		hold(t, l, back)
	}
}

// TestExample is the chapter's.
func TestExample(t *testing.T) {
	l := []api.Point{at(0, 0), at(4, 0), at(4, 1), at(0, 1)}
	for _, s := range []api.Seg{{A: 0, B: 2}, {A: 3, B: 1}} {
		m, e := cdt.Build(l, []api.Seg{s})
		if e != api.OK || len(m.Tris) != 2 || find(m.Tris, s.A, s.B) < 0 || find(m.Tris, s.B, s.A) < 0 {
			t.Errorf("P14.1: %v: %v, error %d", s, m.Tris, e)
		}
	}
	if _, e := cdt.Build(l, []api.Seg{{A: 0, B: 2}, {A: 1, B: 3}}); e != api.ErrCross {
		t.Errorf("P14.1: both diagonals: error %d", e)
	}
}

// TestMost asks about 400 points, with a segment along two rows of them, and with the edges of a triangulation, which are 1121, or with 1300, of which some must be wrong.
func TestMost(t *testing.T) {
	r := random()
	rows, line := comb(r, 199, 0, 1)
	m, e := cdt.Build(rows, line)
	if legal, f := cdt.Legal(m); e != api.OK || !legal || f != api.OK || len(m.Tris) != 398 || find(m.Tris, 0, 1) < 0 || find(m.Tris, 1, 0) < 0 {
		t.Errorf("P14.1: %d triangles, legal: %v, errors %d, %d", len(m.Tris), legal, e, f)
	}
	grid := scatter(r, 400, 20, 20)
	free, _ := hull.Build(grid)
	edges, _ := mesh.Edges(free)
	segs := []api.Seg(nil)
	for _, way := range edges {
		segs = append(segs, api.Seg{A: way[0], B: way[1]})
	}
	m, e = cdt.Build(grid, segs)
	if all, _ := mesh.Edges(m); e != api.OK || !slices.Equal(all, edges) || !slices.Equal(m.Segs, segs) || len(segs) != 1121 {
		t.Errorf("P14.1: %d segments: %d edges, error %d", len(segs), len(all), e)
	}
	for len(segs) < 1300 {
		segs = append(segs, segs[len(segs)-1121])
	}
	if _, e := cdt.Build(grid, segs); e != api.ErrCross {
		t.Errorf("P14.1: 1300 segments: error %d", e)
	}
	if _, e := cdt.Build(grid, append(segs, segs[0])); e != api.ErrLimit {
		t.Errorf("P14.1: 1301 segments: error %d", e)
	}
}
