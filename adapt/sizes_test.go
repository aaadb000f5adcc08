package adapt_test

import (
	"math"
	"math/big"
	"slices"
	"testing"

	"gusset/adapt"
	"gusset/api"
	"gusset/mesh"
	"gusset/rat"
	"gusset/refine"
)

// holdSizes asks about a mesh that may be.
func holdSizes(t *testing.T, m api.Mesh, marked []int, floor2 api.Rat) []api.Size {
	t.Helper()
	must(t, mesh.Check(m))
	want, kind := wantSizes(m, marked, floor2)
	out, e := adapt.Sizes(m, marked, floor2)
	if !slices.Equal(out, want) || e != kind {
		t.Fatalf("P22.2: Sizes of %v with %v: %v, error %d, not %v, %d", marked, bigOf(floor2), out, e, want, kind)
	}
	for i, s := range out {
		if bad, e := refine.Bad(m, []api.Size{s}); len(out) == len(marked) && (e != api.OK || !slices.Contains(bad, marked[i])) {
			t.Fatalf("P22.4: triangle %d is not great for %v: %v, error %d", marked[i], s, bad, e)
		}
	}
	return out
}

func TestSizesExample(t *testing.T) {
	m := alone(at(0, 0), at(2, 0), at(0, 2))
	want := []api.Size{{Centre: at(0, 0), Within2: rat.Of(16), Most2: part(1, 4)}}
	if l := holdSizes(t, m, []int{0}, part(1, 100)); !slices.Equal(l, want) {
		t.Errorf("P22.2: %v", l)
	}
}

// TestPowers asks about triangles whose circle's radius, squared, is a power of 4, a little less, a little more, and elsewhere.
func TestPowers(t *testing.T) {
	for k := -12; k <= 12; k++ {
		for _, factor := range []*big.Rat{small(1, 1), small(1001, 1000), small(999, 1000), small(2, 1), small(1, 2), small(10, 7)} {
			side := ratOf(times(times(small(2, 1), power(k)), factor)) // of the side from a to b, which is the circle's diameter
			half := ratOf(times(power(k), factor))
			m := alone(api.Point{X: rat.Of(0), Y: rat.Of(0)}, api.Point{X: side, Y: rat.Of(0)}, api.Point{X: half, Y: half})
			floor2 := ratOf(power(-100))
			l := holdSizes(t, m, []int{0}, floor2)
			if want := ratOf(power(2*k + 2)); factor.Cmp(small(1, 1)) == 0 && (len(l) != 1 || l[0].Within2 != want) {
				t.Errorf("P22.2: radius 2^%d: %v", k, l)
			}
		}
	}
}

// TestFloor asks with floors on both sides of the radius, squared, and of a sixteenth of the scale.
func TestFloor(t *testing.T) {
	m := alone(at(0, 0), at(2, 0), at(0, 2)) // 2, and the scale is 4
	for _, c := range []struct {
		floor2 api.Rat
		count  int
		most2  api.Rat
	}{
		{rat.Of(2), 0, api.Rat{}}, {part(201, 100), 0, api.Rat{}}, {rat.Of(9), 0, api.Rat{}}, {part(199, 100), 1, part(199, 100)},
		{part(1, 4), 1, part(1, 4)}, {part(26, 100), 1, part(26, 100)}, {part(24, 100), 1, part(1, 4)}, {part(1, 1000), 1, part(1, 4)},
	} {
		l := holdSizes(t, m, []int{0}, c.floor2)
		if len(l) != c.count || c.count == 1 && (l[0].Most2 != c.most2 || l[0].Within2 != rat.Of(16)) {
			t.Errorf("P22.2: floor %v: %v", bigOf(c.floor2), l)
		}
	}
}

// TestMarked asks about marks in any order, often, and none.
func TestMarked(t *testing.T) {
	r := random()
	for i := range 30 {
		n := 1 + i%4
		m := grid(r, n, i%3)
		if i%2 == 1 {
			m = drawn(m, drawer(r, 1+i/4))
		}
		marked := []int(nil)
		for range r.IntN(12) {
			marked = append(marked, r.IntN(max(len(m.Tris), 1)))
		}
		if len(m.Tris) == 0 {
			marked = nil
		}
		holdSizes(t, m, marked, ratOf(times(fraction(r, 2), power(-r.IntN(9)))))
		holdSizes(t, m, nil, rat.Of(1))
	}
	holdSizes(t, api.Mesh{}, nil, rat.Of(1))
	m := alone(at(0, 0), at(5, 1), at(-3, 9))
	if l := holdSizes(t, m, make([]int, 300), part(1, 2)); len(l) != 300 {
		t.Errorf("P22.2: %d sizes", len(l))
	}
	great, e := adapt.Sizes(m, make([]int, 1<<16), part(1, 2))
	if len(great) != 1<<16 || e != api.OK {
		t.Errorf("P22.2: %d sizes, error %d", len(great), e)
	}
}

// TestFirstCorner holds that Centre is the first corner, wherever the triangle begins.
func TestFirstCorner(t *testing.T) {
	m := alone(at(0, 0), at(4, 0), at(1, 3))
	for k := range 3 {
		m.Tris[0] = api.Tri{k, (k + 1) % 3, (k + 2) % 3}
		if l := holdSizes(t, m, []int{0}, part(1, 2)); len(l) != 1 || l[0].Centre != m.Points[k] {
			t.Errorf("P22.2: from corner %d on: %v", k, l)
		}
	}
}

// right is a triangle with a right angle, whose circle's radius, squared, is half of its side's.
func right(side *big.Rat) api.Mesh {
	return alone(at(0, 0), api.Point{X: ratOf(side), Y: rat.Of(0)}, api.Point{X: rat.Of(0), Y: ratOf(side)})
}

// TestGreatScales asks for scales 4^k with k on both sides of -190 and of 190. They are not asked for, where the circle is not above the floor.
func TestGreatScales(t *testing.T) {
	low := ratOf(power(-390))
	for _, c := range []struct {
		side   *big.Rat
		floor2 api.Rat
		e      api.Errno
	}{
		{power(190), rat.Of(1), api.OK},       // 2^379, so 4^190
		{power(191), rat.Of(1), api.ErrLimit}, // 2^381, so 4^191
		{times(power(190), small(3, 2)), rat.Of(1), api.ErrLimit}, {times(power(190), small(7, 5)), rat.Of(1), api.OK},
		{power(250), rat.Of(1), api.ErrLimit}, {power(390), rat.Of(1), api.ErrLimit},
		{power(250), ratOf(power(398)), api.ErrLimit},
		{power(195), ratOf(power(390)), api.OK}, // not above the floor
		{power(-190), low, api.OK},              // 2^-381, so 4^-190
		{power(-191), low, api.ErrLimit},        // 2^-383, so 4^-191
		{power(-191), ratOf(power(-383)), api.OK}, {power(-191), ratOf(power(-384)), api.ErrLimit},
		{power(-300), low, api.OK}, {times(power(-191), small(3, 2)), low, api.OK}, {times(power(-191), small(7, 5)), low, api.ErrLimit},
	} {
		m := right(c.side)
		want, kind := wantSizes(m, []int{0}, c.floor2)
		if l, e := adapt.Sizes(m, []int{0}, c.floor2); !slices.Equal(l, want) || e != kind || e != c.e {
			t.Errorf("P22.2: side %v, floor %v: %v, error %d, not %d", c.side, bigOf(c.floor2), l, e, c.e)
		}
		if l, e := adapt.Sizes(m, nil, c.floor2); len(l) != 0 || e != api.OK {
			t.Errorf("P22.2: side %v, none marked: %v, error %d", c.side, l, e)
		}
	}
	m := right(power(10)) // and one of several
	m.Points = append(m.Points, at(-1, -1), api.Point{X: ratOf(power(300)), Y: ratOf(power(-300))})
	m.Tris = append(m.Tris, api.Tri{3, 4, 0})
	if l, e := adapt.Sizes(m, []int{0, 1}, rat.Of(1)); len(l) != 0 || e != api.ErrLimit {
		t.Errorf("P22.2: %v, error %d", l, e)
	}
	if l, e := adapt.Sizes(m, []int{0, 0}, rat.Of(1)); len(l) != 2 || e != api.OK {
		t.Errorf("P22.2: %v, error %d", l, e)
	}
}

// TestSlender asks about triangles whose points are nearly in a line, and have as many bytes as there may be.
func TestSlender(t *testing.T) {
	r := random()
	for i := range 60 {
		n := 1 + i%50
		points := []api.Point(nil)
		for range 3 {
			l := values(r, 2, n)
			points = append(points, api.Point{X: l[0], Y: l[1]})
		}
		if i%2 == 0 {
			points[2] = api.Point{X: points[0].X, Y: points[1].Y}
		}
		m := alone(points[0], points[1], points[2])
		if mesh.Check(m) != api.OK {
			m.Tris[0] = api.Tri{0, 2, 1}
		}
		holdSizes(t, m, []int{0}, ratOf(power(-20)))
	}
	tiny := api.Rat{Num: api.Int{Mag: "\x01"}, Den: nat(50)}
	flat := alone(at(0, 0), at(2, 0), api.Point{X: rat.Of(1), Y: tiny})
	if l, e := adapt.Sizes(flat, []int{0}, rat.Of(1)); len(l) != 0 || e != api.ErrLimit {
		t.Errorf("P22.2: %v, error %d", l, e)
	}
}

// TestLengths holds how long points and floors may be, be they asked for or not.
func TestLengths(t *testing.T) {
	for _, c := range []struct {
		x api.Rat
		e api.Errno
	}{{far(50), api.OK}, {long(50), api.OK}, {far(51), api.ErrLimit}, {long(51), api.ErrLimit}, {far(100), api.ErrLimit}, {long(100), api.ErrLimit}} {
		for k := range 2 {
			m := square()
			m.Points = append(m.Points, at(1, 1)) // no corner of a triangle
			if k == 0 {
				m.Points[4].X = c.x
			} else {
				m.Points[4].Y = c.x
			}
			for _, marked := range [][]int{nil, {1}} {
				if l, e := adapt.Sizes(m, marked, part(1, 2)); e != c.e || e == api.OK && len(l) != len(marked) || e != api.OK && len(l) != 0 {
					t.Errorf("P22.2: a point of %d bytes: %v, error %d", max(len(c.x.Num.Mag), len(c.x.Den)), l, e)
				}
			}
		}
		for _, marked := range [][]int{nil, {1}} {
			if l, e := adapt.Sizes(square(), marked, c.x); e != c.e || e != api.OK && len(l) != 0 {
				t.Errorf("P22.2: a floor of %d bytes: %v, error %d", max(len(c.x.Num.Mag), len(c.x.Den)), l, e)
			}
		}
	}
}

// TestWrongSizes asks with marks that are no triangles, with floors that may not be, and with meshes that may not be; in this order the latter go ahead.
func TestWrongSizes(t *testing.T) {
	refused := func(name string, m api.Mesh, marked []int, floor2 api.Rat, want api.Errno) {
		t.Helper()
		if l, e := adapt.Sizes(m, marked, floor2); len(l) != 0 || e != want {
			t.Errorf("P22.2: %s: %v, error %d, not %d", name, l, e, want)
		}
	}
	floors := append(wrongs(), rat.Of(0), rat.Of(-1), part(-1, 9), long(8001), far(8001), api.Rat{Num: api.Int{Neg: true, Mag: nat(60)}, Den: "\x01"}, api.Rat{Num: api.Int{Mag: nat(51)}, Den: nat(51)})
	longOne := square()
	longOne.Points[1].X = far(60)
	longOne.Tris, longOne.Segs = longOne.Tris[1:], nil
	for _, floor2 := range floors {
		for _, marked := range [][]int{nil, {0}, {9}} {
			refused("a wrong floor", square(), marked, floor2, api.ErrArg)
			refused("a wrong floor, and a point too long", longOne, marked, floor2, api.ErrArg)
			refused("a wrong floor of nothing", api.Mesh{}, marked, floor2, api.ErrArg)
		}
	}
	for _, wrong := range []int{-1, 2, 3, 4, math.MaxInt, math.MinInt} {
		for _, floor2 := range []api.Rat{rat.Of(1), far(51), long(8001), {}} {
			refused("a mark that is none", square(), []int{wrong}, floor2, api.ErrArg)
			refused("a mark that is none behind others", square(), []int{0, 1, 0, wrong}, floor2, api.ErrArg)
			refused("a mark that is none, and a point too long", longOne, []int{wrong, 0}, floor2, api.ErrArg)
		}
	}
	refused("a mark in nothing", api.Mesh{}, []int{0}, rat.Of(1), api.ErrArg)
	great := right(power(300))
	refused("a scale too great, and a mark that is none", great, []int{0, 1}, rat.Of(1), api.ErrArg)
	for i, c := range wrongMeshes() {
		m := square()
		c.put(&m)
		refused("a wrong mesh", m, []int{0}, rat.Of(1), c.want)
		refused("a wrong mesh, and all else", m, []int{-1}, api.Rat{}, c.want)
		if t.Failed() {
			t.Fatalf("case %d", i)
		}
	}
}

// TestSizesMemory holds that nothing handed in is changed, that what is answered shares no memory with it, and that the same is answered again.
func TestSizesMemory(t *testing.T) {
	m, marked := square(), []int{1, 0, 1, 7}
	given := clonedMesh(m)
	for range 3 {
		l := holdSizes(t, m, marked[:3], part(1, 3))
		clear(l[:cap(l)])
		if !sameMesh(m, given) || !slices.Equal(marked, []int{1, 0, 1, 7}) {
			t.Fatal("R5: what was handed in is changed")
		}
	}
}
