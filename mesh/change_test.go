package mesh_test

import (
	"math"
	"math/rand/v2"
	"slices"
	"testing"

	"gusset/api"
	"gusset/mesh"
)

// holdFlip, holdSplit, holdCut hold a change of a mesh against the words; what comes may be a mesh of the same area. They tell whether it could be done.
func holdFlip(t *testing.T, m api.Mesh, i, k int) bool {
	t.Helper()
	out, e := mesh.Flip(m, i, k)
	want, kind := wantFlip(m, i, k)
	if !sameMesh(out, want) || e != kind {
		t.Fatalf("P11.3: Flip of %d, %d of %v, %v: %v, error %d, not %v, %d", i, k, m.Tris, m.Segs, out.Tris, e, want.Tris, kind)
	}
	if e != api.OK {
		return false
	}
	holdKept(t, m, out)
	back, e := mesh.Flip(out, i, 2) // from c to d
	if e != api.OK || !slices.Equal(plain(back), plain(m)) || !slices.Equal(back.Points, m.Points) || !slices.Equal(back.Segs, m.Segs) {
		t.Fatalf("P11.6: Flip of %d, %d of %v turned back: %v, error %d", i, k, m.Tris, back.Tris, e)
	}
	return true
}

func holdSplit(t *testing.T, m api.Mesh, i int, p api.Point) bool {
	t.Helper()
	out, e := mesh.Split(m, i, p)
	want, kind := wantSplit(m, i, p)
	if !sameMesh(out, want) || e != kind {
		t.Fatalf("P11.4: Split of %d of %v: %v, error %d, not %v, %d", i, m.Tris, out.Tris, e, want.Tris, kind)
	}
	if e == api.OK {
		holdKept(t, m, out)
	}
	return e == api.OK
}

func holdCut(t *testing.T, m api.Mesh, i, k int, p api.Point) bool {
	t.Helper()
	out, e := mesh.Cut(m, i, k, p)
	want, kind := wantCut(m, i, k, p)
	if !sameMesh(out, want) || e != kind {
		t.Fatalf("P11.5: Cut of %d, %d of %v, %v: %v, %v, error %d, not %v, %v, %d", i, k, m.Tris, m.Segs, out.Tris, out.Segs, e, want.Tris, want.Segs, kind)
	}
	if e == api.OK {
		holdKept(t, m, out)
	}
	return e == api.OK
}

// holdKept holds that what has come of a mesh may be, with the same area.
func holdKept(t *testing.T, m, out api.Mesh) {
	t.Helper()
	before, _ := mesh.Area2(m)
	if after, e := mesh.Area2(out); after != before || e != api.OK || !wantMay(out) {
		t.Fatalf("P11.6: %v, %v has become %v, %v: error %d", m.Tris, m.Segs, out.Tris, out.Segs, e)
	}
}

// plain is the triangles of a mesh without the order of their corners, and of themselves.
func plain(m api.Mesh) []api.Tri {
	out := slices.Clone(m.Tris)
	for i, t := range out {
		for t[0] != min(t[0], t[1], t[2]) {
			t = api.Tri{t[1], t[2], t[0]}
		}
		out[i] = t
	}
	slices.SortFunc(out, func(a, b api.Tri) int { return slices.Compare(a[:], b[:]) })
	return out
}

// holdChanges tries all changes: each edge flipped and parted, each triangle split, at points within, on edges, at corners and outside. It counts what could be done.
func holdChanges(t *testing.T, r *rand.Rand, m api.Mesh, done *[3]int) {
	t.Helper()
	for i := range m.Tris {
		weight := func() int { return 1 + r.IntN(4) }
		for k := range 3 {
			l := corners(m, i, k)
			if holdFlip(t, m, i, k) {
				done[0]++
			}
			for _, p := range []api.Point{weighed(l, weight(), weight(), weight()), weighed(l, weight(), weight()), l[0], weighed(l, 3, 3, -1), weighed(l, 3, -1)} {
				if holdSplit(t, m, i, p) {
					done[1]++
				}
				if holdCut(t, m, i, k, p) {
					done[2]++
				}
			}
			holdCut(t, m, i, k, l[1])
			holdCut(t, m, i, k, weighed(l, -1, 3))
			holdCut(t, m, i, k, weighed(l, 0, 1, 1))
		}
	}
	for _, wrong := range []int{-1, len(m.Tris), math.MaxInt, math.MinInt} {
		holdFlip(t, m, wrong, 0)
		holdSplit(t, m, wrong, at(0, 0))
		holdCut(t, m, wrong, 0, at(0, 0))
	}
	for _, wrong := range []int{-1, 3, math.MaxInt, math.MinInt} {
		holdFlip(t, m, 0, wrong)
		holdCut(t, m, 0, wrong, at(0, 0))
	}
}

// TestChanges tries all changes of random meshes, with small numbers and with long ones.
func TestChanges(t *testing.T) {
	r := random()
	done := [3]int{}
	for i := range 24 {
		m := grown(r, i)
		holdChanges(t, r, m, &done)
		if i%4 == 3 {
			holdChanges(t, r, drawn(r, m, i/2), &done)
		}
	}
	holdChanges(t, r, crowd(12, 14, 9), &done)
	if min(done[0], done[1], done[2]) < 100 {
		t.Errorf("flips, splits and cuts: %v", done)
	}
}

// kite is a mesh of two triangles over the edge 0 1, with c to the left of it and d to the right.
func kite(c, d api.Point) api.Mesh {
	return api.Mesh{Points: []api.Point{at(0, 0), at(4, 0), c, d}, Tris: []api.Tri{{0, 1, 2}, {1, 0, 3}}}
}

// TestFlipEdges asks about an edge with nothing across, one that is a segment, and corners that are not convex, that have three in a line, or that are joined already.
func TestFlipEdges(t *testing.T) {
	joined := kite(at(2, 2), at(2, -2))
	joined.Points = append(joined.Points, at(9, 0))
	joined.Tris = append(joined.Tris, api.Tri{3, 4, 2})
	joinedBack := kite(at(2, 2), at(2, -2))
	joinedBack.Points = append(joinedBack.Points, at(-9, 0))
	joinedBack.Tris = append(joinedBack.Tris, api.Tri{2, 4, 3})
	segment, segmentBack, other := kite(at(2, 2), at(2, -2)), kite(at(2, 2), at(2, -2)), kite(at(2, 2), at(2, -2))
	segment.Segs = []api.Seg{{A: 2, B: 0}, {A: 0, B: 1}}
	segmentBack.Segs = []api.Seg{{A: 1, B: 0, Fixed: true}}
	other.Segs = []api.Seg{{A: 1, B: 2, Fixed: true}, {A: 2, B: 0}, {A: 3, B: 0}, {A: 1, B: 3, Fixed: true}}
	for i, c := range []struct {
		m    api.Mesh
		want api.Errno
	}{
		{kite(at(2, 2), at(2, -2)), api.OK}, {kite(at(1, 7), at(3, -1)), api.OK}, {other, api.OK},
		{kite(at(5, 1), at(5, -1)), api.ErrMesh}, {kite(at(-1, 1), at(-1, -1)), api.ErrMesh}, // not convex, at either end
		{kite(at(4, 1), at(4, -1)), api.ErrMesh}, {kite(at(0, 1), at(0, -1)), api.ErrMesh}, // c, d and an end in a line
		{kite(at(4, 1), at(3, -1)), api.OK}, {kite(at(9, 4), at(1, -2)), api.OK}, {kite(at(9, 4), at(4, -1)), api.ErrMesh},
		{joined, api.ErrMesh}, {joinedBack, api.ErrMesh}, {segment, api.ErrMesh}, {segmentBack, api.ErrMesh},
	} {
		for side := range 2 {
			if out, e := mesh.Flip(c.m, side, 0); e != c.want || e != api.OK && !sameMesh(out, api.Mesh{}) {
				t.Errorf("P11.3: case %d from side %d: %v, error %d", i, side, out, e)
			}
			holdFlip(t, c.m, side, 0)
			for k := 1; k < 3; k++ { // nothing lies across these
				if _, e := mesh.Flip(c.m, side, k); beyond(c.m, side, k) < 0 && e != api.ErrMesh {
					t.Errorf("P11.3: case %d, edge %d of %d: error %d", i, k, side, e)
				}
			}
		}
	}
}

// beyond is what lies across an edge.
func beyond(m api.Mesh, t, k int) int {
	u, _ := find(m, m.Tris[t][(k+1)%3], m.Tris[t][k])
	return u
}

// TestSplitPlaces asks about a point within, on an edge, at a corner, and outside; t stays where it is, whichever it is.
func TestSplitPlaces(t *testing.T) {
	m := square()
	m.Segs = []api.Seg{{A: 2, B: 1, Fixed: true}, {A: 0, B: 2}}
	for i, c := range []struct {
		t    int
		p    api.Point
		want []api.Tri
	}{
		{0, weighed([]api.Point{at(1, 0), at(2, 1)}, 1, 1), []api.Tri{{0, 1, 4}, {0, 2, 3}, {1, 2, 4}, {2, 0, 4}}},
		{1, weighed([]api.Point{at(0, 1), at(1, 2)}, 1, 1), []api.Tri{{0, 1, 2}, {0, 2, 4}, {2, 3, 4}, {3, 0, 4}}},
		{0, weighed([]api.Point{at(0, 1), at(1, 2)}, 1, 1), nil}, {0, at(1, 1), nil}, {1, at(1, 1), nil}, {0, at(1, 0), nil}, {0, at(2, 1), nil},
		{0, at(0, 0), nil}, {0, at(2, 0), nil}, {0, at(2, 2), nil}, {0, at(0, 2), nil}, {0, at(3, 1), nil}, {0, at(-1, -1), nil}, {1, at(4, 4), nil},
	} {
		out, e := mesh.Split(m, c.t, c.p)
		if c.want == nil {
			if !sameMesh(out, api.Mesh{}) || e != api.ErrMesh {
				t.Errorf("P11.4: case %d: %v, error %d", i, out.Tris, e)
			}
			continue
		}
		if !slices.Equal(out.Tris, c.want) || !slices.Equal(out.Points, append(slices.Clone(m.Points), c.p)) || !slices.Equal(out.Segs, m.Segs) || e != api.OK {
			t.Errorf("P11.4: case %d: %v, error %d", i, out.Tris, e)
		}
		holdSplit(t, m, c.t, c.p)
	}
}

// TestCutPlaces asks about edges at the rim and within, segments or not, told in either way; and about points that are not on the edge, or at its end.
func TestCutPlaces(t *testing.T) {
	for i, c := range []struct {
		segs    []api.Seg
		t, k    int
		p       api.Point
		want    []api.Tri
		wantSeg []api.Seg
	}{
		{nil, 0, 0, at(1, 0), []api.Tri{{0, 4, 2}, {0, 2, 3}, {4, 1, 2}}, nil},
		{[]api.Seg{{A: 0, B: 1, Fixed: true}, {A: 1, B: 2}}, 0, 0, at(1, 0), []api.Tri{{0, 4, 2}, {0, 2, 3}, {4, 1, 2}}, []api.Seg{{A: 0, B: 4, Fixed: true}, {A: 1, B: 2}, {A: 4, B: 1, Fixed: true}}},
		{[]api.Seg{{A: 1, B: 2, Fixed: true}, {A: 1, B: 0}}, 0, 0, at(1, 0), []api.Tri{{0, 4, 2}, {0, 2, 3}, {4, 1, 2}}, []api.Seg{{A: 1, B: 2, Fixed: true}, {A: 1, B: 4}, {A: 4, B: 0}}},
		{[]api.Seg{{A: 2, B: 1}}, 0, 2, at(1, 1), []api.Tri{{2, 4, 1}, {0, 4, 3}, {4, 0, 1}, {4, 2, 3}}, []api.Seg{{A: 2, B: 1}}},
		{[]api.Seg{{A: 2, B: 0}}, 1, 0, at(1, 1), []api.Tri{{2, 4, 1}, {0, 4, 3}, {4, 2, 3}, {4, 0, 1}}, []api.Seg{{A: 2, B: 4}, {A: 4, B: 0}}},
		{[]api.Seg{{A: 0, B: 2, Fixed: true}}, 1, 0, at(1, 1), []api.Tri{{2, 4, 1}, {0, 4, 3}, {4, 2, 3}, {4, 0, 1}}, []api.Seg{{A: 0, B: 4, Fixed: true}, {A: 4, B: 2, Fixed: true}}},
		{nil, 0, 0, at(0, 0), nil, nil}, {nil, 0, 0, at(2, 0), nil, nil}, {nil, 0, 0, at(3, 0), nil, nil}, {nil, 0, 0, at(-1, 0), nil, nil}, {nil, 0, 0, at(1, 1), nil, nil},
		{nil, 0, 1, at(1, 0), nil, nil}, {nil, 0, 2, at(0, 0), nil, nil}, {nil, 0, 2, at(2, 2), nil, nil}, {nil, 0, 2, at(3, 3), nil, nil}, {nil, 0, 2, at(1, 0), nil, nil},
	} {
		m := square()
		m.Segs = c.segs
		out, e := mesh.Cut(m, c.t, c.k, c.p)
		if c.want == nil {
			if !sameMesh(out, api.Mesh{}) || e != api.ErrMesh {
				t.Errorf("P11.5: case %d: %v, error %d", i, out.Tris, e)
			}
			continue
		}
		if !slices.Equal(out.Tris, c.want) || !slices.Equal(out.Segs, c.wantSeg) || !slices.Equal(out.Points, append(slices.Clone(m.Points), c.p)) || e != api.OK {
			t.Errorf("P11.5: case %d: %v, %v, error %d", i, out.Tris, out.Segs, e)
		}
		holdCut(t, m, c.t, c.k, c.p)
	}
}

// TestRoom asks for a part of a mesh with little room, or none: for a point more, and two triangles more.
func TestRoom(t *testing.T) {
	for _, points := range []int{398, 399, 400} {
		for _, tris := range []int{896, 897, 898, 899, 900} {
			m := crowd(points, tris, 100)
			for _, i := range []int{0, 50, tris - 1} { // of some of these the edges are segments
				fits := points < 400 && tris < 899
				if l := corners(m, i, 0); holdSplit(t, m, i, weighed(l, 1, 2, 3)) != fits || holdCut(t, m, i, 0, weighed(l, 1, 2)) != fits {
					t.Errorf("P11.4, P11.5: %d points, %d triangles: fits %v", points, tris, fits)
				}
			}
			holdFlip(t, m, 0, 0)
		}
	}
}

// TestSegmentsOverflow parts one of as many segments as there may be: the chapter has no limit there, so that one more comes.
func TestSegmentsOverflow(t *testing.T) {
	m := crowd(399, 800, 1300)
	out, e := mesh.Cut(m, 0, 0, weighed(corners(m, 0, 0), 1, 1))
	if want, _ := wantCut(m, 0, 0, weighed(corners(m, 0, 0), 1, 1)); !sameMesh(out, want) || e != api.OK || len(out.Segs) != 1301 || !wantMay(out) {
		t.Errorf("P11.5: %d segments, error %d", len(out.Segs), e)
	}
	if e := mesh.Check(out); e != api.ErrLimit {
		t.Errorf("P11.1: 1301 segments: error %d", e)
	}
}

// TestLongestPoint changes a mesh whose numbers have 100 bytes: they may be asked.
func TestLongestPoint(t *testing.T) {
	m := square()
	for i := range m.Points {
		m.Points[i].X.Num.Mag, m.Points[i].Y.Num.Mag = longer(m.Points[i].X.Num.Mag), longer(m.Points[i].Y.Num.Mag)
	}
	if e := mesh.Check(m); e != api.OK {
		t.Fatalf("P11.1: numbers of 100 bytes: error %d", e)
	}
	r := random()
	done := [3]int{}
	holdChanges(t, r, m, &done)
	if min(done[0], done[1], done[2]) == 0 {
		t.Errorf("flips, splits and cuts: %v", done)
	}
}

// longer is a Nat of one byte with 99 more behind it, if it is not 0.
func longer(n api.Nat) api.Nat {
	if n == "" {
		return n
	}
	return n + api.Nat(make([]byte, 99))
}
