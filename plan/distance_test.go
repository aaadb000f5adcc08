package plan_test

import (
	"math"
	"math/big"
	"slices"
	"strings"
	"testing"

	"gusset/api"
	"gusset/geom"
	"gusset/plan"
	"gusset/rat"
	"gusset/whole"
)

// holdApart asks about the segments of a, b and of c, d, told in each way round, and holds them against geom.Meet.
func holdApart(t *testing.T, a, b, c, d place) {
	t.Helper()
	want := wantApart2(a, b, c, d)
	p, q, r, s := a.point(), b.point(), c.point(), d.point()
	if x, e := plan.Apart2(p, q, r, s); x != ratOf(want) || e != api.OK {
		t.Fatalf("P9.2: Apart2 of %v, %v, %v, %v: %#v, error %d, not %v", a, b, c, d, x, e, want)
	}
	if how, _ := geom.Meet(p, q, r, s); (how != 0) != (want.Sign() == 0) {
		t.Fatalf("P9.5: Meet of %v, %v, %v, %v: %d", a, b, c, d, how)
	}
}

// turned asks in each way round.
func turned(t *testing.T, a, b, c, d place) {
	t.Helper()
	for _, l := range [][4]place{{a, b, c, d}, {b, a, c, d}, {a, b, d, c}, {b, a, d, c}, {c, d, a, b}, {d, c, a, b}, {c, d, b, a}, {d, c, b, a}} {
		holdApart(t, l[0], l[1], l[2], l[3])
	}
}

// TestApartGrid asks about all fours of nine places three by three, where segments that cross, touch, overlap, lie in one line, have an end in common or are a point alone are all frequent.
func TestApartGrid(t *testing.T) {
	l := []place(nil)
	for i := range 9 {
		l = append(l, place{small(i%3, 1), small(i/3, 1)})
	}
	for i := range 9 * 9 * 9 * 9 {
		holdApart(t, l[i%9], l[i/9%9], l[i/81%9], l[i/729])
	}
}

// TestApartLongGrid is the same askew, with numbers of many bytes.
func TestApartLongGrid(t *testing.T) {
	r := random()
	origin, first, second := anyPlace(r, 15), anyPlace(r, 15), anyPlace(r, 15)
	l := []place(nil)
	for i := range 9 {
		m, end := between(origin, first, small(i%3, 2)), between(origin, second, small(i/3, 2))
		l = append(l, place{plus(m.x, minus(end.x, origin.x)), plus(m.y, minus(end.y, origin.y))})
	}
	for range 150 {
		turned(t, l[r.IntN(9)], l[r.IntN(9)], l[r.IntN(9)], l[r.IntN(9)])
	}
}

func TestApartManyBytes(t *testing.T) {
	r := random()
	for i := range 60 {
		n := 1 + i
		l := anyPlaces(r, 4, n)
		holdApart(t, l[0], l[1], l[2], l[3])
	}
	for range 3 {
		l := anyPlaces(r, 4, 100)
		turned(t, l[0], l[1], l[2], l[3])
	}
}

// TestApartNearlyTouching moves a segment that touches another one by tiny steps.
func TestApartNearlyTouching(t *testing.T) {
	r := random()
	tiny := new(big.Rat).SetFrac(big.NewInt(1), new(big.Int).Lsh(big.NewInt(1), 200))
	for range 4 {
		l := anyPlaces(r, 3, 8)
		for _, part := range []*big.Rat{small(-1, 3), small(0, 1), small(2, 7), small(1, 1), small(9, 8)} {
			for _, step := range []*big.Rat{tiny, new(big.Rat), new(big.Rat).Neg(tiny)} {
				p := between(l[0], l[1], part)
				turned(t, l[0], l[1], place{p.x, plus(p.y, step)}, l[2])
			}
		}
	}
}

// TestNoneNearer holds that no points of two segments are nearer than Apart2 tells.
func TestNoneNearer(t *testing.T) {
	r := random()
	for i := range 40 {
		l := anyPlaces(r, 4, 1+i%3)
		apart, _ := plan.Apart2(l[0].point(), l[1].point(), l[2].point(), l[3].point())
		for k := range 9 * 9 {
			p, q := between(l[0], l[1], small(k%9, 8)), between(l[2], l[3], small(k/9, 8))
			if order, e := rat.Cmp(apart, ratOf(far(p, q))); order > 0 || e != api.OK {
				t.Errorf("P9.2: %v and %v of %v are nearer", p, q, l)
			}
		}
	}
}

func TestDistanceExamples(t *testing.T) {
	l, segs := []api.Point{at(0, 0), at(4, 0), at(0, 3)}, []api.Seg{{A: 0, B: 1}, {A: 0, B: 2}}
	if x, e := plan.Least2(l, segs); x != rat.Of(9) || e != api.OK {
		t.Errorf("P9.3: Least2: %#v, error %d", x, e)
	}
	if x, e := plan.Apart2(at(0, 0), at(2, 0), at(1, 1), at(1, 3)); x != rat.Of(1) || e != api.OK {
		t.Errorf("P9.2: Apart2: %#v, error %d", x, e)
	}
}

// holdLeast holds Least2, and that the segments' order, their ways round and their kinds do not matter.
func holdLeast(t *testing.T, l []place, segs []api.Seg) {
	t.Helper()
	want := wantLeast2(l, segs)
	other := []api.Seg(nil)
	for _, s := range segs {
		other = append([]api.Seg{{A: s.B, B: s.A, Fixed: !s.Fixed}}, other...)
	}
	for _, told := range [][]api.Seg{segs, other} {
		if x, e := plan.Least2(points(l), told); x != ratOf(want) || e != api.OK {
			t.Fatalf("P9.3: Least2 of %v, %v: %#v, error %d, not %v", l, told, x, e, want)
		}
	}
}

// TestLeast asks about few points of a wide grid, so that each kind of distance is the least now and then, and 0 too.
func TestLeast(t *testing.T) {
	r := random()
	for i := range 1500 {
		width := 3 + i%20
		l := []place(nil)
		for range 2 + i%5 {
			l = append(l, place{small(r.IntN(width), 1), small(r.IntN(width), 1)})
		}
		holdLeast(t, l, anySegs(r, i%4, len(l)))
	}
	for i := range 30 {
		l := anyPlaces(r, 2+i%4, 1+2*i)
		holdLeast(t, l, anySegs(r, i%3, len(l)))
	}
	holdLeast(t, anyPlaces(r, 4, 100), []api.Seg{{A: 0, B: 1}, {A: 3, B: 2}})
}

// TestLeastKinds asks about one plan for each kind of distance, and for the ones that are left out.
func TestLeastKinds(t *testing.T) {
	for i, c := range []struct {
		l    []api.Point
		segs []api.Seg
		want api.Rat
	}{
		{[]api.Point{at(0, 0), at(3, 4)}, nil, rat.Of(25)},                                                                       // two points
		{[]api.Point{at(0, 0), at(3, 4)}, []api.Seg{{A: 0, B: 1}}, rat.Of(25)},                                                   // and their segment
		{[]api.Point{at(0, 0), at(3, 4)}, []api.Seg{{A: 1, B: 0}, {A: 0, B: 1}, {A: 1, B: 1}}, rat.Of(25)},                       // it has both ends in common with itself
		{[]api.Point{at(0, 0), at(3, 4)}, []api.Seg{{A: 0, B: 0}, {A: 1, B: 1}}, rat.Of(25)},                                     // segments of one point
		{[]api.Point{at(5, 5), at(5, 5)}, nil, rat.Of(0)},                                                                        // two points that are one
		{[]api.Point{at(-9, 0), at(9, 0), at(0, 2)}, []api.Seg{{A: 0, B: 1}}, rat.Of(4)},                                         // a point over a segment
		{[]api.Point{at(-9, 0), at(9, 0), at(0, 0)}, []api.Seg{{A: 0, B: 1}}, rat.Of(0)},                                         // on it
		{[]api.Point{at(-9, 0), at(9, 0), at(12, 0)}, []api.Seg{{A: 0, B: 1}}, rat.Of(9)},                                        // in its line beyond it
		{[]api.Point{at(-9, 0), at(9, 0), at(0, -9), at(0, 9)}, []api.Seg{{A: 0, B: 1}, {A: 2, B: 3}}, rat.Of(0)},                // segments that cross
		{[]api.Point{at(-9, 0), at(9, 0), at(0, -9), at(0, 9)}, []api.Seg{{A: 0, B: 1}}, rat.Of(81)},                             // one of them alone
		{[]api.Point{at(-9, 0), at(9, 0), at(0, 3), at(0, 90)}, []api.Seg{{A: 0, B: 1}, {A: 2, B: 3}}, rat.Of(9)},                // segments that are apart
		{[]api.Point{at(0, 0), at(9, 0), at(9, 0), at(9, 9)}, []api.Seg{{A: 0, B: 1}, {A: 2, B: 3}}, rat.Of(0)},                  // a common end by place alone
		{[]api.Point{at(0, 0), at(9, 0), at(9, 9), at(0, 9)}, []api.Seg{{A: 0, B: 1}, {A: 1, B: 2}, {A: 2, B: 3}}, rat.Of(81)},   // by number
		{[]api.Point{at(0, 0), at(8, 0), at(4, 4), at(100, 4)}, []api.Seg{{A: 0, B: 2}, {A: 1, B: 2}, {A: 3, B: 2}}, rat.Of(16)}, // three at one end
	} {
		if x, e := plan.Least2(c.l, c.segs); x != c.want || e != api.OK {
			t.Errorf("P9.3: case %d: %#v, error %d", i, x, e)
		}
	}
}

// crowd is as many points as there may be, each 2 from the next; and as many segments, no two of which cross.
func crowd() ([]api.Point, []api.Seg) {
	l, segs := []api.Point(nil), []api.Seg(nil)
	for i := range api.MaxPoints {
		l = append(l, at(2*(i%8), 2*(i/8)))
		if i%8 != 0 {
			segs = append(segs, api.Seg{A: i - 1, B: i})
		}
		if i >= 8 && len(segs) < api.MaxSegs {
			segs = append(segs, api.Seg{A: i, B: i - 8})
		}
	}
	return l, segs[:api.MaxSegs]
}

// TestLeastEdges asks about as many points and segments as there may be, one more, and too few.
func TestLeastEdges(t *testing.T) {
	l, segs := crowd()
	if x, e := plan.Least2(l, segs); x != rat.Of(4) || e != api.OK {
		t.Errorf("P9.3: %#v, error %d", x, e)
	}
	wrong := api.Point{}
	for i, c := range []struct {
		l    []api.Point
		segs []api.Seg
		e    api.Errno
	}{
		{append(slices.Clone(l), at(50, 50)), nil, api.ErrLimit}, {l, append(slices.Clone(segs), api.Seg{A: 0, B: 1}), api.ErrLimit},
		{append([]api.Point{wrong}, l...), []api.Seg{{A: -1}}, api.ErrLimit}, {[]api.Point{wrong}, make([]api.Seg, 61), api.ErrLimit},
		{nil, make([]api.Seg, 61), api.ErrLimit}, {nil, make([]api.Seg, 60), api.ErrArg}, {nil, nil, api.ErrArg}, {[]api.Point{}, nil, api.ErrArg},
		{[]api.Point{at(1, 1)}, nil, api.ErrArg}, {[]api.Point{at(1, 1)}, []api.Seg{{}}, api.ErrArg},
		{[]api.Point{at(1, 1), at(2, 2)}, nil, api.OK}, {[]api.Point{wrong}, nil, api.ErrArg},
	} {
		if x, e := plan.Least2(c.l, c.segs); e != c.e || e != api.OK && x != (api.Rat{}) {
			t.Errorf("P9.3: case %d: %#v, error %d, not %d", i, x, e, c.e)
		}
	}
}

// TestLeastWrongEnds puts ends that are no point's number in each place, behind segments that cross.
func TestLeastWrongEnds(t *testing.T) {
	l := []api.Point{at(0, 0), at(2, 2), at(0, 2), at(2, 0)}
	for _, end := range []int{-1, 4, 5, math.MaxInt, math.MinInt} {
		for _, s := range []api.Seg{{A: end, B: 1}, {A: 1, B: end}, {A: end, B: end}, {A: end, B: -1}} {
			for k := range 3 {
				segs := slices.Insert([]api.Seg{{A: 0, B: 1}, {A: 2, B: 3}}, k, s)
				if x, e := plan.Least2(l, segs); x != (api.Rat{}) || e != api.ErrArg {
					t.Errorf("P9.3: the end %d: %#v, error %d", end, x, e)
				}
			}
		}
	}
}

// wrongPoint is one that may not be asked.
type wrongPoint struct {
	p api.Point
	e api.Errno
}

// wrongPoints are such: too long, not in their one form, and both.
func wrongPoints() []wrongPoint {
	good := rat.Of(1)
	nat := func(n int) api.Nat { return api.Nat(strings.Repeat("\x01", n)) }
	longWhole, longPart := api.Rat{Num: api.Int{Mag: nat(101)}, Den: "\x01"}, api.Rat{Num: whole.Of(1), Den: nat(101)}
	uncut, negative := api.Rat{Num: whole.Of(2), Den: "\x04"}, api.Rat{Num: api.Int{Neg: true}, Den: "\x01"}
	out := []wrongPoint(nil)
	for _, long := range []api.Rat{longWhole, longPart, {Num: whole.Of(1), Den: nat(8001)}} {
		out = append(out, wrongPoint{api.Point{X: long, Y: good}, api.ErrLimit}, wrongPoint{api.Point{X: good, Y: long}, api.ErrLimit})
		out = append(out, wrongPoint{api.Point{X: uncut, Y: long}, api.ErrLimit}, wrongPoint{api.Point{X: long, Y: uncut}, api.ErrLimit})
	}
	for _, wrong := range []api.Rat{uncut, negative, {}, {Num: whole.Of(1), Den: "\x00\x01"}, {Num: api.Int{Mag: "\x00\x01"}, Den: "\x01"}} {
		out = append(out, wrongPoint{api.Point{X: wrong, Y: good}, api.ErrArg}, wrongPoint{api.Point{X: good, Y: wrong}, api.ErrArg})
	}
	return out
}

// TestWrongPoints puts one or two points that may not be asked in every place: the first one's error is told, ahead of all but the counts.
func TestWrongPoints(t *testing.T) {
	wrong := wrongPoints()
	for _, w := range wrong {
		for _, other := range wrong {
			for first := range 4 {
				for second := first; second < 4; second++ {
					l := []api.Point{at(0, 0), at(2, 2), at(0, 2), at(2, 0)}
					l[second] = other.p
					l[first] = w.p
					if x, e := plan.Apart2(l[0], l[1], l[2], l[3]); x != (api.Rat{}) || e != w.e {
						t.Fatalf("P9.2: point %d: %#v, error %d, not %d", first, x, e, w.e)
					}
					if p, q, e := plan.Box(l); p != (api.Point{}) || q != (api.Point{}) || e != w.e {
						t.Fatalf("P9.1: point %d: %#v, %#v, error %d, not %d", first, p, q, e, w.e)
					}
					if x, e := plan.Least2(l, []api.Seg{{A: -1, B: 9}}); x != (api.Rat{}) || e != w.e {
						t.Fatalf("P9.3: point %d: %#v, error %d, not %d", first, x, e, w.e)
					}
				}
			}
		}
		if _, _, e := plan.Box([]api.Point{w.p}); e != w.e {
			t.Errorf("P9.1: one wrong point alone: error %d, not %d", e, w.e)
		}
		if _, e := plan.Least2([]api.Point{w.p}, nil); e != w.e {
			t.Errorf("P9.3: one wrong point alone: error %d, not %d", e, w.e)
		}
	}
}

// TestLongest asks about points of 100 bytes everywhere: they may be asked, though the answer be longer.
func TestLongest(t *testing.T) {
	full := ratOf(fraction(random(), 100))
	if len(full.Num.Mag) != 100 || len(full.Den) != 100 {
		t.Fatalf("%d and %d bytes", len(full.Num.Mag), len(full.Den))
	}
	for i := range 4 {
		l := []api.Point{at(0, 0), at(1, 0), at(0, 1), at(1, 1)}
		l[i] = api.Point{X: full, Y: full}
		_, e := plan.Apart2(l[0], l[1], l[2], l[3])
		_, e2 := plan.Least2(l, []api.Seg{{A: 0, B: 1}, {A: 2, B: 3}})
		_, _, e3 := plan.Box(l)
		if e != api.OK || e2 != api.OK || e3 != api.OK {
			t.Errorf("P9.1 to P9.3: point %d of 100 bytes: errors %d, %d, %d", i, e, e2, e3)
		}
	}
}

// TestKeptAsGiven holds that what is handed in is not changed, and that the same is answered again.
func TestKeptAsGiven(t *testing.T) {
	l, segs := crowd()
	givenPoints, givenSegs := slices.Clone(l), slices.Clone(segs)
	low, high, _ := plan.Box(l)
	x, _ := plan.Least2(l, segs)
	if p, q, e := plan.Box(l); p != low || q != high || e != api.OK {
		t.Errorf("R6: Box again: %#v, %#v, error %d", p, q, e)
	}
	if y, e := plan.Least2(l, segs); y != x || e != api.OK {
		t.Errorf("R6: Least2 again: %#v, error %d", y, e)
	}
	if !slices.Equal(l, givenPoints) || !slices.Equal(segs, givenSegs) {
		t.Errorf("R5: what was handed in is changed")
	}
}
