package geom_test

import (
	"math/big"
	"strings"
	"testing"

	"gusset/api"
	"gusset/geom"
	"gusset/rat"
	"gusset/whole"
)

// hold asks every call about four places.
func hold(t *testing.T, a, b, c, d place) {
	t.Helper()
	holdThree(t, a, b, c)
	p, q, r, s := a.point(), b.point(), c.point(), d.point()
	in, ok := wantCircle(a, b, c, d)
	if n, e := geom.Circle(p, q, r, s); n != in || e != flatUnless(ok) {
		t.Fatalf("P5.1: Circle of %v, %v, %v, %v: %d, error %d, not %d", a, b, c, d, n, e, in)
	}
	if n, e := geom.Meet(p, q, r, s); n != wantMeet(a, b, c, d) || e != api.OK {
		t.Fatalf("P5.2: Meet of %v, %v, %v, %v: %d, error %d", a, b, c, d, n, e)
	}
	want := api.Point{}
	cross, ok := wantCrossing(a, b, c, d)
	if ok {
		want = cross.point()
	}
	if x, e := geom.Crossing(p, q, r, s); x != want || e != flatUnless(ok) {
		t.Fatalf("P5.2: Crossing of %v, %v, %v, %v: %#v, error %d", a, b, c, d, x, e)
	}
	in, ok = wantWithin(a, b, c, d)
	if n, e := geom.Within(p, q, r, s); n != in || e != flatUnless(ok) {
		t.Fatalf("P5.3: Within of %v, %v, %v, %v: %d, error %d, not %d", a, b, c, d, n, e, in)
	}
}

// holdThree asks the calls about three places.
func holdThree(t *testing.T, a, b, c place) {
	t.Helper()
	p, q, r := a.point(), b.point(), c.point()
	if n, e := geom.Orient(p, q, r); n != area(a, b, c).Sign() || e != api.OK {
		t.Fatalf("P5.1: Orient of %v, %v, %v: %d, error %d", a, b, c, n, e)
	}
	if n, e := geom.Disc(p, q, r); n != wantDisc(a, b, c) || e != api.OK {
		t.Fatalf("P5.1: Disc of %v, %v, %v: %d, error %d", a, b, c, n, e)
	}
	if on, e := geom.On(p, q, r); on != wantOn(a, b, c) || e != api.OK {
		t.Fatalf("P5.3: On of %v, %v, %v: %v, error %d", a, b, c, on, e)
	}
}

func flatUnless(ok bool) api.Errno {
	if ok {
		return api.OK
	}
	return api.ErrFlat
}

// TestGrid asks about all fours of nine places three by three, where points in a line, on a circle, on an edge, at a corner, and segments that touch, overlap, lie in each other, are the same or a point alone are all frequent.
func TestGrid(t *testing.T) {
	l := []place(nil)
	for i := range 9 {
		l = append(l, place{small(i%3, 1), small(i/3, 1)})
	}
	for i := range 9 * 9 * 9 * 9 {
		hold(t, l[i%9], l[i/9%9], l[i/81%9], l[i/729])
	}
}

// TestLongGrid is the same with places far off, of long numbers, askew: nine places that one parallelogram makes.
func TestLongGrid(t *testing.T) {
	r := random()
	origin, first, second := anyPlace(r, 20), anyPlace(r, 20), anyPlace(r, 20)
	l := []place(nil)
	for i := range 9 {
		m := between(origin, first, small(i%3, 2))
		end := between(origin, second, small(i/3, 2))
		l = append(l, place{plus(m.x, minus(end.x, origin.x)), plus(m.y, minus(end.y, origin.y))})
	}
	for range 600 {
		hold(t, l[r.IntN(9)], l[r.IntN(9)], l[r.IntN(9)], l[r.IntN(9)])
	}
}

func TestManyBytes(t *testing.T) {
	r := random()
	for i := range 100 {
		n := 1 + i
		hold(t, anyPlace(r, n), anyPlace(r, n), anyPlace(r, n), anyPlace(r, n))
	}
	for range 5 {
		hold(t, anyPlace(r, 100), anyPlace(r, 100), anyPlace(r, 100), anyPlace(r, 100))
	}
}

// nudges are tiny steps, and none.
func nudges() []*big.Rat {
	tiny := new(big.Rat).SetFrac(big.NewInt(1), new(big.Int).Lsh(big.NewInt(1), 200))
	return []*big.Rat{tiny, new(big.Rat), new(big.Rat).Neg(tiny)}
}

// TestInLine asks about points that are in a line, or nearly so: parts of the segment from a to b, ahead of it, at its ends, and behind.
func TestInLine(t *testing.T) {
	r := random()
	parts := []*big.Rat{small(-1, 3), small(0, 1), small(2, 7), small(1, 1), small(9, 8)}
	for range 6 {
		a, b := anyPlace(r, 12), anyPlace(r, 12)
		for _, part := range parts {
			p := between(a, b, part)
			for _, step := range nudges() {
				moved := place{p.x, plus(p.y, step)}
				hold(t, a, b, moved, anyPlace(r, 12))
				hold(t, moved, anyPlace(r, 12), b, a)
				for _, other := range parts {
					hold(t, a, b, moved, between(a, b, other))
				}
			}
		}
	}
}

// TestOnCircle asks about points on a circle, or nearly so.
func TestOnCircle(t *testing.T) {
	r := random()
	for range 40 {
		centre, first := anyPlace(r, 4), anyPlace(r, 4)
		l := []place{first}
		for range 3 {
			l = append(l, onCircle(centre, first, fraction(r, 3)))
		}
		across := between(first, centre, small(2, 1))
		for _, step := range nudges() {
			moved := place{plus(l[3].x, step), l[3].y}
			hold(t, l[0], l[1], l[2], moved)
			hold(t, l[2], l[1], l[0], moved)
			holdThree(t, first, across, moved)
		}
	}
}

func at(x, y int) api.Point { return api.Point{X: rat.Of(x), Y: rat.Of(y)} }

func TestExamples(t *testing.T) {
	for i, c := range []struct {
		call       func(a, b, c, d api.Point) (int, api.Errno)
		a, b, c, d api.Point
		want       int
	}{
		{geom.Circle, at(0, 0), at(2, 0), at(0, 2), at(1, 1), 1}, {geom.Circle, at(0, 0), at(2, 0), at(0, 2), at(2, 2), 0},
		{geom.Circle, at(0, 0), at(2, 0), at(0, 2), at(3, 2), -1},
		{geom.Meet, at(0, 0), at(2, 2), at(0, 2), at(2, 0), 1}, {geom.Meet, at(0, 0), at(1, 1), at(1, 1), at(2, 0), 2},
		{geom.Meet, at(0, 0), at(1, 1), at(2, 1), at(2, 0), 0},
	} {
		if n, e := c.call(c.a, c.b, c.c, c.d); n != c.want || e != api.OK {
			t.Errorf("P5.1, P5.2: example %d: %d, error %d", i, n, e)
		}
	}
}

// TestLaws holds what follows of the promises.
func TestLaws(t *testing.T) {
	r := random()
	for i := range 100 {
		n := 1 + i%20
		centre, a := anyPlace(r, n%4+1), anyPlace(r, n%4+1)
		b, c, d := onCircle(centre, a, fraction(r, 3)), anyPlace(r, n), onCircle(centre, a, fraction(r, 3))
		if i%2 == 0 {
			c = onCircle(centre, a, fraction(r, 3))
		}
		p, q, s, u := a.point(), b.point(), c.point(), d.point()
		turn, _ := geom.Orient(p, q, s)
		in, _ := geom.Circle(p, q, s, u)
		for k, l := range [][3]api.Point{{p, q, s}, {q, s, p}, {s, p, q}, {q, p, s}, {p, s, q}, {s, q, p}} {
			want := turn
			if k >= 3 {
				want = -turn
			}
			if n, _ := geom.Orient(l[0], l[1], l[2]); n != want {
				t.Errorf("P5.4: Orient in order %d: %d", k, n)
			}
			if n, _ := geom.Circle(l[0], l[1], l[2], u); n != in {
				t.Errorf("P5.4: Circle in order %d: %d", k, n)
			}
		}
		shift, scale := anyPlace(r, 4), over(fraction(r, 2), small(1, 1))
		scale.Abs(scale)
		drawn := func(p place) api.Point {
			return place{plus(shift.x, times(scale, p.x)), plus(shift.y, times(scale, p.y))}.point()
		}
		if !sameLie([4]api.Point{p, q, s, u}, [4]api.Point{drawn(a), drawn(b), drawn(c), drawn(d)}) {
			t.Errorf("P5.4: %v, %v, %v, %v lie otherwise when moved", a, b, c, d)
		}
	}
}

// sameLie tells whether two fours of points lie alike.
func sameLie(l [4]api.Point, m [4]api.Point) bool {
	lie := func(l [4]api.Point) [6]int {
		turn, _ := geom.Orient(l[0], l[1], l[2])
		in, _ := geom.Circle(l[0], l[1], l[2], l[3])
		disc, _ := geom.Disc(l[0], l[1], l[2])
		meet, _ := geom.Meet(l[0], l[1], l[2], l[3])
		within, _ := geom.Within(l[0], l[1], l[2], l[3])
		on := 0
		if yes, _ := geom.On(l[0], l[1], l[2]); yes {
			on = 1
		}
		return [6]int{turn, in, disc, meet, within, on}
	}
	return lie(l) == lie(m)
}

// call is one of the calls: of how many points, and whether its answer is 0.
type call struct {
	name string
	n    int
	ask  func(l []api.Point) (bool, api.Errno)
}

// calls are all of them.
func calls() []call {
	three := func(f func(a, b, c api.Point) (int, api.Errno)) func(l []api.Point) (bool, api.Errno) {
		return func(l []api.Point) (bool, api.Errno) {
			n, e := f(l[0], l[1], l[2])
			return n == 0, e
		}
	}
	four := func(f func(a, b, c, d api.Point) (int, api.Errno)) func(l []api.Point) (bool, api.Errno) {
		return func(l []api.Point) (bool, api.Errno) {
			n, e := f(l[0], l[1], l[2], l[3])
			return n == 0, e
		}
	}
	return []call{
		{"Orient", 3, three(geom.Orient)}, {"Circle", 4, four(geom.Circle)}, {"Disc", 3, three(geom.Disc)},
		{"Meet", 4, four(geom.Meet)}, {"Within", 4, four(geom.Within)},
		{"Crossing", 4, func(l []api.Point) (bool, api.Errno) {
			p, e := geom.Crossing(l[0], l[1], l[2], l[3])
			return p == api.Point{}, e
		}},
		{"On", 3, func(l []api.Point) (bool, api.Errno) {
			on, e := geom.On(l[0], l[1], l[2])
			return !on, e
		}},
	}
}

// wrongPoint is one that may not be asked.
type wrongPoint struct {
	p api.Point
	e api.Errno
}

// wrongPoints are such: too long, not in their one form, and both.
func wrongPoints() []wrongPoint {
	good := rat.Of(1)
	nat := func(n int) api.Nat { return api.Nat(strings.Repeat("\x01", n)) }
	longWhole, longPart := api.Rat{Num: api.Int{Mag: nat(101)}, Den: "\x01"}, api.Rat{Num: whole.Of(1), Den: nat(101)}
	uncut, negative := api.Rat{Num: whole.Of(2), Den: "\x04"}, api.Rat{Num: api.Int{Neg: true}, Den: "\x01"}
	out := []wrongPoint(nil)
	for _, long := range []api.Rat{longWhole, longPart, {Num: whole.Of(1), Den: nat(8001)}} {
		out = append(out, wrongPoint{api.Point{X: long, Y: good}, api.ErrLimit}, wrongPoint{api.Point{X: good, Y: long}, api.ErrLimit})
		out = append(out, wrongPoint{api.Point{X: uncut, Y: long}, api.ErrLimit}, wrongPoint{api.Point{X: long, Y: uncut}, api.ErrLimit})
	}
	for _, wrong := range []api.Rat{uncut, negative, {}, {Num: whole.Of(1), Den: "\x00\x01"}, {Num: api.Int{Mag: "\x00\x01"}, Den: "\x01"}} {
		out = append(out, wrongPoint{api.Point{X: wrong, Y: good}, api.ErrArg}, wrongPoint{api.Point{X: good, Y: wrong}, api.ErrArg})
	}
	return out
}

// TestWrongPoints puts one or two points that may not be asked in every place, beside others that lie in a line: the first one's error is told, ahead of all else.
func TestWrongPoints(t *testing.T) {
	wrong := wrongPoints()
	for _, c := range calls() {
		for _, w := range wrong {
			for _, other := range wrong {
				for first := range c.n {
					for second := first; second < c.n; second++ {
						l := []api.Point{at(0, 0), at(1, 0), at(2, 0), at(3, 0)}
						l[second] = other.p
						l[first] = w.p
						if none, e := c.ask(l); !none || e != w.e {
							t.Fatalf("P5.1 to P5.3: %s, point %d: error %d, not %d", c.name, first, e, w.e)
						}
					}
				}
			}
		}
	}
}

// TestLongest puts a point of 100 bytes everywhere in every place: it may be asked.
func TestLongest(t *testing.T) {
	full := ratOf(fraction(random(), 100))
	if len(full.Num.Mag) != 100 || len(full.Den) != 100 {
		t.Fatalf("%d and %d bytes", len(full.Num.Mag), len(full.Den))
	}
	for _, c := range calls() {
		for i := range c.n {
			l := []api.Point{at(0, 0), at(1, 0), at(0, 1), at(1, 1)}
			l[i] = api.Point{X: full, Y: full}
			if _, e := c.ask(l); e != api.OK {
				t.Errorf("P5.1 to P5.3: %s, point %d of 100 bytes: error %d", c.name, i, e)
			}
		}
	}
}
