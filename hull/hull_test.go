package hull_test

import (
	"slices"
	"testing"

	"gusset/api"
	"gusset/hull"
	"gusset/mesh"
)

// hold holds both calls against the words, for points that may be asked. It tells whether there is a mesh.
func hold(t *testing.T, l []api.Point) bool {
	t.Helper()
	all := places(l)
	want := wantError(all)
	round, e := hull.Round(l)
	m, f := hull.Build(l)
	if e != want || f != want {
		t.Fatalf("P13.1, P13.2: errors %d, %d, not %d: %v", e, f, want, all)
	}
	if want != api.OK {
		if len(round)+len(m.Points)+len(m.Tris)+len(m.Segs) != 0 {
			t.Fatalf("R3: beside error %d: %v, %v", want, round, m)
		}
		return false
	}
	if way := wantRound(all); !slices.Equal(round, way) {
		t.Fatalf("P13.1: %v, not %v: %v", round, way, all)
	}
	if !slices.Equal(m.Points, l) || len(m.Segs) != 0 || mesh.Check(m) != api.OK {
		t.Fatalf("P13.2: %v, %v: error %d", m.Points, m.Segs, mesh.Check(m))
	}
	holdCover(t, all, m.Tris, round)
	holdCircles(t, all, m.Tris)
	return true
}

// holdCover holds that triangles cover the hull, and no more, once: they turn to the left; each of their edges has a triangle across, or lies on the hull's edge; their areas make the hull's. Small ones are held against each other, too.
func holdCover(t *testing.T, l []place, tris []api.Tri, round []int) {
	t.Helper()
	edge := rim(l, round)
	if len(tris) != 2*len(l)-2-len(edge) {
		t.Fatalf("P13.3: %d triangles of %d points, %d of them on the edge", len(tris), len(l), len(edge))
	}
	ways := map[[2]int]int{}
	used := make([]int, len(l))
	sum := area()
	for i, v := range tris {
		if turn(l[v[0]], l[v[1]], l[v[2]]) <= 0 {
			t.Fatalf("P13.2: %v does not turn to the left", v)
		}
		sum = plus(sum, area(l[v[0]], l[v[1]], l[v[2]]))
		for k := range v {
			ways[[2]int{v[k], v[(k+1)%3]}]++
			used[v[k]]++
		}
		for _, u := range tris[:i] {
			if len(tris) < 60 && !apart(l, v, u) {
				t.Fatalf("P13.2: %v and %v lie on one another", v, u)
			}
		}
	}
	if slices.Contains(used, 0) {
		t.Fatalf("P13.2: corners of how many triangles: %v", used)
	}
	for way, n := range ways {
		across := ways[[2]int{way[1], way[0]}]
		if n != 1 || across == 0 && (!slices.Contains(edge, way[0]) || !slices.Contains(edge, way[1])) {
			t.Fatalf("P13.2: the edge %v: %d times, %d times back", way, n, across)
		}
	}
	corners := []place(nil)
	for _, v := range round {
		corners = append(corners, l[v])
	}
	if whole := area(corners...); sum.Cmp(whole) != 0 {
		t.Fatalf("P13.3: the area %v, not %v", sum, whole)
	}
}

// holdCircles holds that no point lies within a triangle's circle.
func holdCircles(t *testing.T, l []place, tris []api.Tri) {
	t.Helper()
	for _, v := range tris {
		centre, radius := circle(l[v[0]], l[v[1]], l[v[2]])
		for i, p := range l {
			if far(centre, p).Cmp(radius) < 0 {
				t.Fatalf("P13.2: point %d lies within the circle of %v: %v", i, v, l)
			}
		}
	}
}

// TestScatter asks about points of small grids, of which many lie in lines and on circles; and the same drawn elsewhere, by long numbers.
func TestScatter(t *testing.T) {
	r := random()
	done := 0
	for i := range 400 {
		l := scatter(r, 1+i%25, 1+r.IntN(9), 1+r.IntN(9))
		if hold(t, l) {
			done++
		}
		if i%20 == 0 {
			hold(t, drawn(r, l, 1+i/16))
		}
		if len(l) > 2 { // one of them twice
			l = append(l, l[r.IntN(len(l))])
			r.Shuffle(len(l), func(i, j int) { l[i], l[j] = l[j], l[i] })
			hold(t, l)
		}
	}
	if done < 200 {
		t.Errorf("%d meshes", done)
	}
}

// TestFar asks about points that lie far apart, or very near.
func TestFar(t *testing.T) {
	r := random()
	for _, n := range []int{3, 8, 13, 30} {
		hold(t, scatter(r, n, 1000, 1000))
		for _, bytes := range []int{1, 7, 100} {
			l := []api.Point(nil)
			for range min(n, 13) {
				l = append(l, api.Point{X: ratOf(fraction(r, bytes)), Y: ratOf(fraction(r, bytes))})
			}
			hold(t, l)
		}
	}
	tiny := at(0, 0)
	tiny.Y.Num.Mag, tiny.Y.Den = "\x01", api.Nat(append([]byte{1}, make([]byte, 99)...))
	hold(t, []api.Point{at(0, 0), at(1, 0), tiny})
	hold(t, []api.Point{at(0, 0), at(1, 0), at(3, 0), at(2, 0), tiny})
	hold(t, []api.Point{at(-1, 0), at(0, 0), tiny, at(1, 0), at(0, -1)})
}

// TestShapes asks about rows, circles, curves and wheels.
func TestShapes(t *testing.T) {
	r := random()
	shapes := [][]api.Point{round(r, 3), round(r, 4), round(r, 17), round(r, 40), append(round(r, 24), at(0, 0)), append(round(r, 9), scatter(r, 9, 3, 3)[1:]...)}
	for _, n := range []int{1, 2, 3, 8, 21} {
		row, steep, slant, up, down := []api.Point(nil), []api.Point(nil), []api.Point(nil), []api.Point(nil), []api.Point(nil)
		for i := range n {
			row, steep, slant = append(row, at(i, 5)), append(steep, at(5, i)), append(slant, at(2*i, -3*i))
			up, down = append(up, at(i, i*i)), append(down, at(i, (n-i)*(n-i)))
		}
		shapes = append(shapes, row, steep, slant, up, down)
		for _, tip := range []api.Point{at(-1, -1), at(4, 40), at(9, 2)} {
			shapes = append(shapes, append(slices.Clone(row), tip), append(slices.Clone(steep), tip), append(slices.Clone(slant), tip))
		}
	}
	for _, l := range shapes {
		hold(t, l)
		back := slices.Clone(l)
		slices.Reverse(back)
		hold(t, back)
		hold(t, drawn(r, l, 2))
	}
}

// TestFirstCorner asks from where the way round goes: from the least X, of more the least Y.
func TestFirstCorner(t *testing.T) {
	for i, c := range []struct {
		l    []api.Point
		want []int
	}{
		{[]api.Point{at(0, 0), at(2, 0), at(2, 2), at(0, 2), at(1, 1)}, []int{0, 1, 2, 3}}, // the chapter's
		{[]api.Point{at(0, 2), at(0, 1), at(0, 0), at(1, 1)}, []int{2, 3, 0}},
		{[]api.Point{at(3, 3), at(-5, 7), at(-5, -7), at(-5, 0), at(4, 0)}, []int{2, 4, 0, 1}},
		{[]api.Point{at(1, -9), at(0, 0), at(2, 0)}, []int{1, 0, 2}},
		{[]api.Point{at(-1, 0), at(1, 0), at(0, 1), at(0, -1)}, []int{0, 3, 1, 2}},
		{[]api.Point{at(1, 0), at(0, 0), at(2, 0), at(0, 3), at(0, 1), at(1, 1)}, []int{1, 2, 3}},
	} {
		if round, e := hull.Round(c.l); !slices.Equal(round, c.want) || e != api.OK {
			t.Errorf("P13.1: case %d: %v, error %d, not %v", i, round, e, c.want)
		}
		hold(t, c.l)
	}
}

// TestMost asks about 400 points: scattered, on a grid, on a curve, on a circle, and in a row but for one.
func TestMost(t *testing.T) {
	r := random()
	curve, row := []api.Point(nil), []api.Point{at(300, 1)}
	for i := range 400 {
		curve = append(curve, at(i, (400-i)*(400-i)))
		row = append(row, at(i, 0))
	}
	for i, l := range [][]api.Point{scatter(r, 400, 1000, 1000), scatter(r, 400, 20, 20), curve, round(r, 400), row[:400]} {
		if !hold(t, l) {
			t.Errorf("case %d: no mesh", i)
		}
	}
}
