package mesh_test

import (
	"math"
	"math/big"
	"slices"
	"testing"

	"gusset/api"
	"gusset/cons"
	"gusset/mesh"
	"gusset/rat"
)

// holdLook holds what is told of a mesh that may be against the words.
func holdLook(t *testing.T, name string, m api.Mesh) {
	t.Helper()
	if e := mesh.Check(m); e != api.OK || !wantMay(m) {
		t.Fatalf("P11.1: %s: error %d of %v, %v", name, e, m.Tris, m.Segs)
	}
	if l, e := mesh.Edges(m); !slices.Equal(l, wantEdges(m)) || e != api.OK {
		t.Errorf("P11.2: %s: Edges of %v: %v, error %d", name, m.Tris, l, e)
	}
	if x, e := mesh.Area2(m); x != wantArea2(m) || e != api.OK {
		t.Errorf("P11.2: %s: Area2: %#v, error %d", name, x, e)
	}
	for i := -1; i <= len(m.Tris); i += 1 + len(m.Tris)/50 {
		for k := -1; k <= 3; k++ {
			u, j, want := 0, 0, api.ErrArg
			if i >= 0 && i < len(m.Tris) && k >= 0 && k <= 2 {
				u, j = find(m, m.Tris[i][(k+1)%3], m.Tris[i][k])
				want = api.OK
			}
			if v, l, e := mesh.Across(m, i, k); v != u || l != j || e != want {
				t.Errorf("P11.2: %s: Across of %d, %d of %v: %d, %d, error %d", name, i, k, m.Tris, v, l, e)
			}
		}
	}
}

func TestExample(t *testing.T) {
	m := square()
	if u, k, e := mesh.Across(m, 0, 2); u != 1 || k != 0 || e != api.OK {
		t.Errorf("P11.2: Across: %d, %d, error %d", u, k, e)
	}
	n, e := mesh.Flip(m, 0, 2)
	if !slices.Equal(n.Tris, []api.Tri{{3, 0, 1}, {3, 1, 2}}) || !slices.Equal(n.Points, m.Points) || len(n.Segs) != 0 || e != api.OK {
		t.Errorf("P11.3: Flip: %v, error %d", n, e)
	}
}

// TestLook asks about random meshes, with small numbers and with long ones.
func TestLook(t *testing.T) {
	r := random()
	for i := range 40 {
		m := grown(r, i)
		holdLook(t, "grown", m)
		holdLook(t, "grown, drawn elsewhere", drawn(r, m, 1+i%20))
	}
	holdLook(t, "crowd", crowd(30, 60, 50))
	holdLook(t, "long crowd", drawn(r, crowd(20, 30, 20), 28))
}

// TestNothing asks about no point and no triangle, points alone, and one triangle.
func TestNothing(t *testing.T) {
	for _, m := range []api.Mesh{{}, {Points: []api.Point{}, Tris: []api.Tri{}, Segs: []api.Seg{}}, {Points: []api.Point{at(1, 2)}}, {Points: crowd(api.MaxVerts, 0, 0).Points}} {
		holdLook(t, "no triangle", m)
		if x, e := mesh.Area2(m); x != rat.Of(0) || e != api.OK {
			t.Errorf("P11.2: Area2 of none: %#v, error %d", x, e)
		}
		_, flipped := mesh.Flip(m, 0, 0)
		_, split := mesh.Split(m, 0, at(0, 0))
		_, cut := mesh.Cut(m, 0, 0, at(0, 0))
		if flipped != api.ErrArg || split != api.ErrArg || cut != api.ErrArg {
			t.Errorf("P11.3 to P11.5: of no triangle: errors %d, %d, %d", flipped, split, cut)
		}
	}
	m := square()
	m.Tris = m.Tris[:1]
	holdLook(t, "one triangle, and a point that is no corner", m)
	m.Points = append(m.Points, m.Points[0]) // a second one there
	m.Tris = append(m.Tris, api.Tri{4, 1, 2})
	if e := mesh.Check(m); e != api.ErrMesh {
		t.Errorf("P11.1: the edge 1 2 twice: error %d", e)
	}
	m.Tris[1] = api.Tri{4, 2, 3}
	holdLook(t, "two points in one place, so that nothing lies across", m)
}

// TestCounts asks about as many points, triangles and segments as there may be, and one more of each.
func TestCounts(t *testing.T) {
	for _, c := range []struct {
		points, tris, segs int
		want               api.Errno
	}{
		{400, 900, 1300, api.OK}, {401, 900, 1300, api.ErrLimit}, {400, 901, 1300, api.ErrLimit}, {400, 900, 1301, api.ErrLimit},
		{401, 0, 0, api.ErrLimit}, {400, 0, 0, api.OK}, {399, 899, 1299, api.OK},
	} {
		m := crowd(c.points, c.tris, c.segs)
		if len(m.Points) != c.points || len(m.Tris) != c.tris || len(m.Segs) != c.segs {
			t.Fatalf("%d points, %d triangles, %d segments", len(m.Points), len(m.Tris), len(m.Segs))
		}
		if e := mesh.Check(m); e != c.want {
			t.Errorf("P11.1: %v: error %d", c, e)
		}
	}
	for i, m := range []api.Mesh{
		{Points: make([]api.Point, 401)}, {Tris: make([]api.Tri, 901)}, {Segs: make([]api.Seg, 1301)}, // whatever else they are
		{Points: make([]api.Point, 1), Tris: make([]api.Tri, 901)}, {Points: make([]api.Point, 1), Segs: make([]api.Seg, 1301)},
	} {
		if e := mesh.Check(m); e != api.ErrLimit {
			t.Errorf("P11.1: case %d: error %d", i, e)
		}
	}
	holdLook(t, "as much as there may be", crowd(400, 900, 1300))
}

// TestMayNot asks about meshes with one fault each, which is in every place in turn.
func TestMayNot(t *testing.T) {
	r := random()
	for i := range 12 {
		m := grown(r, 3*i)
		if i%2 == 1 {
			m = drawn(r, m, i)
		}
		for k := range m.Tris {
			a, b, c := m.Tris[k][0], m.Tris[k][1], m.Tris[k][2]
			for _, wrong := range []api.Tri{{a, c, b}, {c, b, a}, {b, a, c}, {a, a, a}, {a, b, b}, {a, b, a}, {-1, b, c}, {a, len(m.Points), c}, {a, b, math.MaxInt}, {math.MinInt, b, c}} {
				n := cloned(m)
				n.Tris[k] = wrong
				mayNot(t, n)
			}
			for _, again := range []api.Tri{{a, b, c}, {b, c, a}, {c, a, b}} {
				n := cloned(m)
				n.Tris = append(n.Tris, again)
				mayNot(t, n)
				n.Tris = slices.Insert(cloned(m).Tris, 0, again)
				mayNot(t, n)
			}
		}
	}
}

// mayNot holds that a mesh may not be: by every call.
func mayNot(t *testing.T, m api.Mesh) {
	t.Helper()
	if wantMay(m) {
		t.Fatalf("%v, %v may be", m.Tris, m.Segs)
	}
	if e := mesh.Check(m); e != api.ErrMesh {
		t.Errorf("P11.1: %v, %v: error %d", m.Tris, m.Segs, e)
	}
}

// TestFlat asks about three points in a line, in all orders, nearly in a line, and turned round by very little.
func TestFlat(t *testing.T) {
	r := random()
	tiny := new(big.Rat).SetFrac(big.NewInt(1), new(big.Int).Lsh(big.NewInt(1), 300))
	for i := range 20 {
		a, b := api.Point{X: ratOf(fraction(r, 1+i)), Y: ratOf(fraction(r, 1+i))}, api.Point{X: ratOf(fraction(r, 1+i)), Y: ratOf(fraction(r, 1+i))}
		middle := weighed([]api.Point{a, b}, 1+i%3, 2)
		for _, step := range []*big.Rat{tiny, new(big.Rat), new(big.Rat).Neg(tiny)} {
			c := api.Point{X: middle.X, Y: ratOf(plus(bigOf(middle.Y), step))}
			for _, tri := range []api.Tri{{0, 1, 2}, {1, 2, 0}, {2, 0, 1}, {0, 2, 1}, {2, 1, 0}, {1, 0, 2}} {
				m := api.Mesh{Points: []api.Point{a, b, c}, Tris: []api.Tri{tri}}
				want := api.ErrMesh
				if turnsLeft(m, tri[0], tri[1], tri[2]) {
					want = api.OK
				}
				if e := mesh.Check(m); e != want {
					t.Errorf("P11.1: case %d, %v: error %d, not %d", i, tri, e, want)
				}
			}
		}
	}
	m := api.Mesh{Points: []api.Point{at(0, 0), at(1, 1), at(2, 2), at(1, 1)}}
	for i := range 64 {
		m.Tris = []api.Tri{{i % 4, i / 4 % 4, i / 16}}
		mayNot(t, m)
	}
}

// TestSegments asks about segments that are no edges, that are told twice or turned round, at the rim and within.
func TestSegments(t *testing.T) {
	for _, ends := range [][2]int{{0, 1}, {1, 2}, {2, 3}, {3, 0}, {0, 2}} { // the last one lies within
		for _, s := range []api.Seg{{A: ends[0], B: ends[1]}, {A: ends[1], B: ends[0], Fixed: true}} {
			m := square()
			m.Segs = []api.Seg{s}
			holdLook(t, "a segment", m)
			for _, again := range []api.Seg{s, {A: s.B, B: s.A, Fixed: s.Fixed}, {A: s.A, B: s.B, Fixed: !s.Fixed}, {A: s.B, B: s.A, Fixed: !s.Fixed}} {
				m.Segs = []api.Seg{s, again}
				mayNot(t, m)
			}
		}
	}
	for _, v := range []int{-1, 4, math.MaxInt, math.MinInt} {
		for _, s := range []api.Seg{{A: v, B: 0}, {A: 0, B: v}, {A: v, B: v}} {
			m := square()
			m.Segs = []api.Seg{{A: 0, B: 1}, s}
			mayNot(t, m)
		}
	}
	m := square()
	m.Points = append(m.Points, at(0, 0)) // 4 is where 0 is
	for _, s := range []api.Seg{{A: 1, B: 3}, {A: 3, B: 1}, {A: 0, B: 0}, {A: 4, B: 1}, {A: 0, B: 4}} {
		m.Segs = []api.Seg{s}
		mayNot(t, m)
	}
	r := random()
	for i := range 20 {
		m := grown(r, 2*i)
		for a := range m.Points {
			for b := range m.Points {
				n := cloned(m)
				n.Segs = append(n.Segs, api.Seg{A: a, B: b})
				want := api.ErrMesh
				if wantMay(n) {
					want = api.OK
				}
				if e := mesh.Check(n); e != want {
					t.Errorf("P11.1: the segment %d %d of %v: error %d, not %d", a, b, m.Tris, e, want)
				}
			}
		}
	}
}

// TestOnOneAnother asks about triangles that lie on one another: they may be, if no edge is there twice in the same way.
func TestOnOneAnother(t *testing.T) {
	m := api.Mesh{Points: []api.Point{at(0, 0), at(9, 0), at(0, 9), at(1, 1), at(8, 1), at(1, 8)}, Tris: []api.Tri{{0, 1, 2}, {3, 4, 5}}}
	holdLook(t, "one within the other", m)
	if x, _ := mesh.Area2(m); x != rat.Of(81+49) {
		t.Errorf("P11.2: Area2 of one within the other: %#v", x)
	}
	m.Points = append(m.Points, m.Points[:3]...)
	m.Tris = append(m.Tris, api.Tri{6, 7, 8})
	holdLook(t, "the same with other numbers", m)
	m.Tris = append(m.Tris, api.Tri{1, 2, 3})
	mayNot(t, m) // 1 2 is there already
	m.Tris[3] = api.Tri{3, 4, 2}
	mayNot(t, m)
}

// TestLongArea asks about the area of as many points as there may be, with numbers of 100 bytes: its own are far longer than may be handed in. Triangle by triangle it is the sum of cons.Area2.
func TestLongArea(t *testing.T) {
	r := random()
	for _, points := range []int{6, 60, 399} {
		m := api.Mesh{}
		for i := range points {
			m.Points = append(m.Points, api.Point{X: ratOf(fraction(r, 100)), Y: ratOf(fraction(r, 100))})
			if i%3 == 2 {
				tri := api.Tri{i - 2, i - 1, i}
				if !turnsLeft(m, i-2, i-1, i) {
					tri = api.Tri{i - 1, i - 2, i}
				}
				m.Tris = append(m.Tris, tri)
			}
		}
		over, under := new(big.Int), big.NewInt(1)
		for _, tri := range m.Tris {
			one, _ := cons.Area2(m.Points[tri[0]], m.Points[tri[1]], m.Points[tri[2]])
			x := bigOf(one)
			over.Add(over.Mul(over, x.Denom()), new(big.Int).Mul(under, x.Num()))
			under.Mul(under, x.Denom())
		}
		x, e := mesh.Area2(m)
		if x != ratOf(new(big.Rat).SetFrac(over, under)) || e != api.OK || len(x.Den) < 190*points {
			t.Errorf("P11.2: Area2 of %d points: %d bytes, error %d", points, len(x.Den), e)
		}
	}
}
