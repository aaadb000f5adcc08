package locate_test

import (
	"math/rand/v2"
	"slices"
	"testing"

	"gusset/api"
	"gusset/geom"
	"gusset/locate"
	"gusset/mesh"
	"gusset/rat"
)

// hold asks about a point in a mesh, from some triangles on, and holds what is told against the words, and against what follows. It tells whether a way went round.
func hold(t *testing.T, m api.Mesh, u []api.Rat, p api.Point, starts ...int) bool {
	t.Helper()
	wantT, wantW := wantAt(m, p)
	if k, w, e := locate.At(m, p); k != wantT || w != wantW || e != api.OK {
		t.Fatalf("P12.1: At: %d, %d, error %d, not %d, %d", k, w, e, wantT, wantW)
	}
	wantV, wantIn := wantValue(m, u, p)
	if x, in, e := locate.Value(m, u, p); x != wantV || in != wantIn || e != api.OK {
		t.Fatalf("P12.4: Value: %#v, %v, error %d, not %#v, %v", x, in, e, wantV, wantIn)
	}
	round := false
	for _, start := range starts {
		want, kind := wantWalk(m, start, p)
		l, e := locate.Walk(m, start, p)
		if !slices.Equal(l, want) || e != kind {
			t.Fatalf("P12.2: Walk from %d in %v: %v, error %d, not %v, %d", start, m.Tris, l, e, want, kind)
		}
		round = round || e != api.OK
		if e == api.OK && l[len(l)-1] >= 0 {
			c := corners(m, l[len(l)-1], 0)
			if where, _ := geom.Within(c[0], c[1], c[2], p); where < 0 {
				t.Fatalf("P12.5: the way %v ends in a triangle in which the point does not lie", l)
			}
		}
	}
	return round
}

func TestExample(t *testing.T) {
	m := square()
	if k, w, e := locate.At(m, at(1, 1)); k != 0 || w != 0 || e != api.OK {
		t.Errorf("P12.1: At of (1, 1): %d, %d, error %d", k, w, e)
	}
	if k, w, e := locate.At(m, at(0, 1)); k != 1 || w != 0 || e != api.OK {
		t.Errorf("P12.1: At of (0, 1): %d, %d, error %d", k, w, e)
	}
	if l, e := locate.Walk(m, 0, at(0, 2)); !slices.Equal(l, []int{0, 1}) || e != api.OK {
		t.Errorf("P12.2: Walk: %v, error %d", l, e)
	}
}

// TestGrid asks about all points of a fine grid over a square and around it, so that they lie within, on edges, at corners and outside.
func TestGrid(t *testing.T) {
	m := square()
	u := []api.Rat{rat.Of(3), rat.Of(-5), rat.Of(0), rat.Of(7)}
	for i := range 9 * 9 {
		hold(t, m, u, api.Point{X: ratOf(small(i%9-2, 2)), Y: ratOf(small(i/9-2, 2))}, 0, 1)
	}
}

// anyPoint is one about a net of squares, n by n: at a corner, on an edge, or anywhere.
func anyPoint(r *rand.Rand, n int) api.Point {
	d := 1 + r.IntN(3)
	return api.Point{X: ratOf(small(r.IntN((n+2)*d)-d/2, d)), Y: ratOf(small(r.IntN((n+2)*d)-d/2, d))}
}

// TestNets asks about random meshes, whole and with holes, with small numbers and with long ones.
func TestNets(t *testing.T) {
	r := random()
	for i := range 60 {
		n := 1 + i%5
		m := net(r, n, i%7%(2*n*n))
		draw := drawer(r, 1+i%25)
		elsewhere := drawn(m, draw)
		u := values(r, m, 1+i%30)
		for range 8 {
			p, start := anyPoint(r, n), r.IntN(len(m.Tris))
			hold(t, m, u, p, start, 0)
			hold(t, elsewhere, u, draw(p), start)
		}
	}
}

// TestSeveral asks about points that lie in several triangles, which lie on one another: the first one is told.
func TestSeveral(t *testing.T) {
	m := api.Mesh{Points: []api.Point{at(0, 0), at(9, 0), at(0, 9), at(1, 1), at(6, 1), at(1, 6)}, Tris: []api.Tri{{0, 1, 2}, {3, 4, 5}}}
	turned := api.Mesh{Points: m.Points, Tris: []api.Tri{m.Tris[1], m.Tris[0]}}
	u := []api.Rat{rat.Of(0), rat.Of(9), rat.Of(9), rat.Of(100), rat.Of(100), rat.Of(100)}
	for i := range 12 * 12 {
		hold(t, m, u, at(i%12-1, i/12-1), 0, 1)
		hold(t, turned, u, at(i%12-1, i/12-1), 0, 1)
	}
	first, _, _ := locate.Value(m, u, at(2, 2))
	second, _, _ := locate.Value(turned, u, at(2, 2))
	if first != rat.Of(4) || second != rat.Of(100) {
		t.Errorf("P12.4: %#v and %#v", first, second)
	}
}

// TestWays asks for ways that go round, that lead out, and that end at once.
func TestWays(t *testing.T) {
	m := mill()
	if e := mesh.Check(m); e != api.OK {
		t.Fatalf("the mill: error %d", e)
	}
	for start := range 8 {
		if l, e := locate.Walk(m, start, at(0, 0)); len(l) != 0 || e != api.ErrMesh {
			t.Errorf("P12.2: the way round from %d: %v, error %d", start, l, e)
		}
		hold(t, m, values(random(), m, 1), at(0, 0), start)
	}
	for start := 8; start < 10; start++ { // these lie within the ring
		if l, e := locate.Walk(m, start, at(0, 0)); !slices.Equal(l, []int{start}) || e != api.OK {
			t.Errorf("P12.2: at once from %d: %v, error %d", start, l, e)
		}
	}
	ring := api.Mesh{Points: m.Points, Tris: m.Tris[:8]}
	if !hold(t, ring, values(random(), m, 1), at(0, 0), 0, 3, 7) {
		t.Errorf("P12.2: no way went round")
	}
	for _, n := range []int{1, 2, 3, 10, 398} { // ways as long as there are triangles
		m := strip(n)
		all := []int(nil)
		for i := range n {
			all = append(all, i)
		}
		if l, e := locate.Walk(m, 0, m.Points[n+1]); !slices.Equal(l, all) || e != api.OK {
			t.Errorf("P12.2: a strip of %d: %v, error %d", n, l, e)
		}
		out := weighed([]api.Point{m.Points[n-1], m.Points[n], m.Points[n+1]}, -1, 5, 5)
		if l, e := locate.Walk(m, 0, out); !slices.Equal(l, append(all, -1)) || e != api.OK {
			t.Errorf("P12.2: out of a strip of %d: %v, error %d", n, l, e)
		}
		if l, e := locate.Walk(m, n-1, m.Points[n+1]); !slices.Equal(l, []int{n - 1}) || e != api.OK {
			t.Errorf("P12.2: at once in a strip of %d: %v, error %d", n, l, e)
		}
		if l, e := locate.Walk(m, 0, at(-1, 0)); !slices.Equal(l, []int{0, -1}) || e != api.OK {
			t.Errorf("P12.2: out at once of a strip of %d: %v, error %d", n, l, e)
		}
	}
}

// TestFirstEdge asks for a way from a triangle of which the point lies beyond two edges: which of them is the first one, hangs on where its corners begin.
func TestFirstEdge(t *testing.T) {
	points := []api.Point{at(0, 0), at(4, 0), at(0, 4), at(4, -4), at(-4, 4)}
	for k, want := range [][]int{{0, 1, -1}, {0, 2, -1}, {0, 2, -1}} {
		tri := api.Tri{0, 1, 2}
		m := api.Mesh{Points: points, Tris: []api.Tri{{tri[k], tri[(k+1)%3], tri[(k+2)%3]}, {0, 3, 1}, {0, 2, 4}}}
		if l, e := locate.Walk(m, 0, at(-5, -5)); !slices.Equal(l, want) || e != api.OK {
			t.Errorf("P12.2: from corner %d on: %v, error %d", k, l, e)
		}
	}
}

// TestFan asks about all points of random meshes, and about one that is no corner.
func TestFan(t *testing.T) {
	r := random()
	for i := range 20 {
		n := 1 + i%4
		m := net(r, n, i%5%(2*n*n))
		m.Points = append(m.Points, at(50, 50), m.Points[0])
		for v := range m.Points {
			want := []int(nil)
			for k := len(m.Tris) - 1; k >= 0; k-- {
				if tri := m.Tris[k]; (tri[0]-v)*(tri[1]-v)*(tri[2]-v) == 0 {
					want = append(want, k)
				}
			}
			slices.Reverse(want)
			if l, e := locate.Fan(m, v); !slices.Equal(l, want) || e != api.OK {
				t.Errorf("P12.3: Fan of %d in %v: %v, error %d, not %v", v, m.Tris, l, e, want)
			}
		}
		if l, e := locate.Fan(m, len(m.Points)-1); len(l) != 0 || e != api.OK {
			t.Errorf("P12.3: Fan of a point that is no corner: %v, error %d", l, e)
		}
	}
}

// TestNothing asks about meshes without triangles.
func TestNothing(t *testing.T) {
	for _, m := range []api.Mesh{{}, {Points: []api.Point{}, Tris: []api.Tri{}}, {Points: []api.Point{at(1, 1), at(2, 2)}}} {
		u := slices.Repeat([]api.Rat{rat.Of(5)}, len(m.Points))
		hold(t, m, u, at(1, 1))
		if k, w, e := locate.At(m, at(1, 1)); k != -1 || w != 0 || e != api.OK {
			t.Errorf("P12.1: At: %d, %d, error %d", k, w, e)
		}
		if x, in, e := locate.Value(m, u, at(1, 1)); x != rat.Of(0) || in || e != api.OK {
			t.Errorf("P12.4: Value: %#v, %v, error %d", x, in, e)
		}
		if l, e := locate.Walk(m, 0, at(1, 1)); len(l) != 0 || e != api.ErrArg {
			t.Errorf("P12.2: Walk: %v, error %d", l, e)
		}
		for v := range 3 {
			want := api.ErrArg
			if v < len(m.Points) {
				want = api.OK
			}
			if l, e := locate.Fan(m, v); len(l) != 0 || e != want {
				t.Errorf("P12.3: Fan of %d: %v, error %d", v, l, e)
			}
		}
	}
}

// crowd is as many points and triangles as there may be: the points stand on a curve that turns to the left everywhere, and the triangles lie on one another.
func crowd(points, tris int) api.Mesh {
	m := api.Mesh{}
	for i := range points {
		m.Points = append(m.Points, at(i, i*i))
	}
	for _, steps := range [][2]int{{1, 2}, {4, 5}, {6, 8}} {
		for i := 0; i+steps[0]+steps[1] < points && len(m.Tris) < tris; i++ {
			m.Tris = append(m.Tris, api.Tri{i, i + steps[0], i + steps[0] + steps[1]})
		}
	}
	return m
}

// TestMany asks about as much as there may be.
func TestMany(t *testing.T) {
	m := crowd(400, 900)
	u := values(random(), m, 3)
	for _, v := range []int{0, 200, 399} {
		hold(t, m, u, m.Points[v], 0, 450, 899)
	}
	hold(t, m, u, weighed(corners(m, 899, 0), 1, 1, 1), 899)
	hold(t, m, u, at(200, 0), 899)
	large := net(random(), 19, 0) // 400 points
	for _, p := range []api.Point{at(0, 0), at(19, 19), at(7, 12), {X: ratOf(small(37, 3)), Y: ratOf(small(29, 7))}, at(20, 20)} {
		hold(t, large, values(random(), large, 2), p, 0, 333, 721)
	}
}

// TestValuesAtPoints holds that the value at a point of the mesh is its number, and that values of sums are sums of values.
func TestValuesAtPoints(t *testing.T) {
	r := random()
	for i := range 15 {
		n := 1 + i%4
		draw := drawer(r, 1+i)
		m := drawn(net(r, n, 0), draw)
		u, v := values(r, m, 1+i), values(r, m, 2+i)
		sums := []api.Rat(nil)
		for k := range u {
			sums = append(sums, ratOf(plus(bigOf(u[k]), bigOf(v[k]))))
		}
		for k, p := range m.Points {
			if x, in, e := locate.Value(m, u, p); x != u[k] || !in || e != api.OK {
				t.Errorf("P12.5: the value at point %d: %#v, %v, error %d", k, x, in, e)
			}
		}
		for range 5 {
			p := draw(anyPoint(r, n))
			x, in, _ := locate.Value(m, u, p)
			y, _, _ := locate.Value(m, v, p)
			sum, _ := rat.Add(x, y)
			if z, also, e := locate.Value(m, sums, p); z != sum || also != in || e != api.OK {
				t.Errorf("P12.5: the value of a sum: %#v, %v, error %d", z, also, e)
			}
		}
	}
}

// TestLongValues asks about numbers as long as they may be, everywhere: what is told is longer than may be handed in.
func TestLongValues(t *testing.T) {
	r := random()
	draw := drawer(r, 28)
	m := drawn(square(), draw)
	u := values(r, m, 8000)
	for _, p := range []api.Point{at(1, 1), at(2, 0), at(5, 5), {X: ratOf(small(1, 2)), Y: rat.Of(1)}} {
		hold(t, m, u, draw(p), 0)
	}
	x, _, e := locate.Value(m, u, draw(api.Point{X: ratOf(small(1, 2)), Y: rat.Of(1)}))
	if len(x.Den) < 20000 || e != api.OK {
		t.Errorf("P12.4: %d bytes, error %d", len(x.Den), e)
	}
	far := api.Point{X: ratOf(fraction(r, 100)), Y: ratOf(fraction(r, 100))}
	wide := api.Mesh{Points: []api.Point{at(-1000, -1000), at(1000, -1000), at(0, 5000)}, Tris: []api.Tri{{0, 1, 2}}}
	hold(t, wide, values(r, wide, 8000), far, 0)
}
