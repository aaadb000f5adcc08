package cons_test

import (
	"math/big"
	"strings"
	"testing"

	"gusset/api"
	"gusset/cons"
	"gusset/rat"
	"gusset/whole"
)

// hold asks every call about three places.
func hold(t *testing.T, a, b, c place) {
	t.Helper()
	holdTwo(t, a, b)
	p, q, r := a.point(), b.point(), c.point()
	want, e := api.Point{}, api.ErrFlat
	ratio := api.Rat{}
	if m, ok := centre(a, b, c); ok {
		want, e = m.point(), api.OK
		ratio = ratOf(wantRatio2(a, b, c))
	}
	if m, err := cons.Centre(p, q, r); m != want || err != e {
		t.Fatalf("P6.1: Centre of %v, %v, %v: %#v, error %d", a, b, c, m, err)
	}
	if x, err := cons.Ratio2(p, q, r); x != ratio || err != e {
		t.Fatalf("P6.3: Ratio2 of %v, %v, %v: %#v, error %d", a, b, c, x, err)
	}
	if x, e := cons.Near2(p, q, r); x != ratOf(wantNear2(a, b, c)) || e != api.OK {
		t.Fatalf("P6.2: Near2 of %v, %v, %v: %#v, error %d", a, b, c, x, e)
	}
	if x, e := cons.Area2(p, q, r); x != ratOf(area(a, b, c)) || e != api.OK {
		t.Fatalf("P6.3: Area2 of %v, %v, %v: %#v, error %d", a, b, c, x, e)
	}
	sharp, e := wantSharp(a, b, c), api.OK
	if p == q || q == r {
		sharp, e = false, api.ErrFlat
	}
	if is, err := cons.Sharp(p, q, r); is != sharp || err != e {
		t.Fatalf("P6.3: Sharp of %v, %v, %v: %v, error %d", a, b, c, is, err)
	}
}

// holdTwo asks the calls about two places.
func holdTwo(t *testing.T, a, b place) {
	t.Helper()
	if m, e := cons.Middle(a.point(), b.point()); m != between(a, b, small(1, 2)).point() || e != api.OK {
		t.Fatalf("P6.1: Middle of %v, %v: %#v, error %d", a, b, m, e)
	}
	if x, e := cons.Far2(a.point(), b.point()); x != ratOf(far(a, b)) || e != api.OK {
		t.Fatalf("P6.1: Far2 of %v, %v: %#v, error %d", a, b, x, e)
	}
}

// TestGrid asks about all threes of places four by four, where triangles that are flat, points that are one, equal edges, and feet at a segment's ends are frequent.
func TestGrid(t *testing.T) {
	l := []place(nil)
	for i := range 16 {
		l = append(l, place{small(i%4, 3), small(i/4, 3)})
	}
	for i := range 16 * 16 * 16 {
		hold(t, l[i%16], l[i/16%16], l[i/256])
	}
}

func TestManyBytes(t *testing.T) {
	r := random()
	for i := range 100 {
		n := 1 + i%60
		a, b, c := anyPlace(r, n), anyPlace(r, n), anyPlace(r, n)
		hold(t, a, b, c)
		hold(t, a, a, c)
		hold(t, a, b, a)
		hold(t, a, b, b)
	}
	for range 5 {
		hold(t, anyPlace(r, 100), anyPlace(r, 100), anyPlace(r, 100))
	}
}

// TestInLine asks about points in a line, or nearly so: ahead of the segment, at its ends, on it, and behind.
func TestInLine(t *testing.T) {
	r := random()
	tiny := new(big.Rat).SetFrac(big.NewInt(1), new(big.Int).Lsh(big.NewInt(1), 300))
	for range 20 {
		a, b := anyPlace(r, 10), anyPlace(r, 10)
		for _, part := range []*big.Rat{small(-1, 3), small(0, 1), small(2, 7), small(1, 1), small(9, 8)} {
			p := between(a, b, part)
			hold(t, a, b, p)
			hold(t, p, a, b)
			hold(t, a, b, place{plus(p.x, tiny), p.y})
		}
	}
}

// TestFeet asks Near2 of points whose foot is an end of the segment, or just off it.
func TestFeet(t *testing.T) {
	r := random()
	for range 30 {
		a, b := anyPlace(r, 8), anyPlace(r, 8)
		for _, part := range []*big.Rat{small(-1, 1000), small(0, 1), small(1, 1000), small(999, 1000), small(1, 1), small(1001, 1000)} {
			foot := between(a, b, part)
			for _, height := range []*big.Rat{small(-3, 1), small(1, 7), small(0, 1)} {
				p := place{minus(foot.x, times(height, minus(b.y, a.y))), plus(foot.y, times(height, minus(b.x, a.x)))}
				if x, e := cons.Near2(a.point(), b.point(), p.point()); x != ratOf(wantNear2(a, b, p)) || e != api.OK {
					t.Errorf("P6.2: Near2 of %v, %v, %v: %#v, error %d", a, b, p, x, e)
				}
			}
		}
	}
}

// TestNearly60 asks about angles as near to 60 degrees as numbers of so many bytes let them be: the square of y is 3 times that of x, and 1 more, or 2 less.
func TestNearly60(t *testing.T) {
	x, y, three := big.NewInt(1), big.NewInt(1), big.NewInt(3)
	origin, right := place{small(0, 1), small(0, 1)}, place{small(5, 1), small(0, 1)}
	left := place{small(-5, 1), small(0, 1)}
	for len(y.Bytes()) <= 100 {
		above := new(big.Int).Sub(new(big.Int).Mul(y, y), new(big.Int).Mul(three, new(big.Int).Mul(x, x))).Sign() > 0
		p := place{new(big.Rat).SetInt(x), new(big.Rat).SetInt(y)}
		mirrored := place{p.x, new(big.Rat).Neg(p.y)}
		for _, q := range []place{p, mirrored} {
			if sharp, e := cons.Sharp(right.point(), origin.point(), q.point()); sharp == above || e != api.OK {
				t.Errorf("P6.3: %v, which is %v above 60 degrees: %v, error %d", q, above, sharp, e)
			}
			if sharp, e := cons.Sharp(q.point(), origin.point(), left.point()); sharp || e != api.OK {
				t.Errorf("P6.3: %v, about 120 degrees: %v, error %d", q, sharp, e)
			}
		}
		hold(t, right, origin, p)
		x, y = new(big.Int).Add(x, y), new(big.Int).Add(y, new(big.Int).Mul(three, x))
		if !above { // both are even then
			x.Rsh(x, 1)
			y.Rsh(y, 1)
		}
	}
}

func at(x, y int) api.Point { return api.Point{X: rat.Of(x), Y: rat.Of(y)} }

func TestExamples(t *testing.T) {
	if p, e := cons.Centre(at(0, 0), at(2, 0), at(0, 2)); p != at(1, 1) || e != api.OK {
		t.Errorf("P6.1: Centre: %#v, error %d", p, e)
	}
	if x, e := cons.Near2(at(0, 0), at(4, 0), at(2, 3)); x != rat.Of(9) || e != api.OK {
		t.Errorf("P6.2: Near2: %#v, error %d", x, e)
	}
	if x, e := cons.Near2(at(0, 0), at(4, 0), at(6, 0)); x != rat.Of(4) || e != api.OK {
		t.Errorf("P6.2: Near2: %#v, error %d", x, e)
	}
	if sharp, e := cons.Sharp(at(1, 0), at(0, 0), at(0, 1)); sharp || e != api.OK {
		t.Errorf("P6.3: Sharp: %v, error %d", sharp, e)
	}
	if sharp, e := cons.Sharp(at(1, 0), at(0, 0), at(1, 1)); !sharp || e != api.OK {
		t.Errorf("P6.3: Sharp: %v, error %d", sharp, e)
	}
	if x, e := cons.Ratio2(at(0, 0), at(2, 0), at(0, 2)); x != ratOf(small(1, 2)) || e != api.OK {
		t.Errorf("P6.3: Ratio2: %#v, error %d", x, e)
	}
}

// TestLaws holds what follows of the promises.
func TestLaws(t *testing.T) {
	r := random()
	for i := range 60 {
		n := 1 + i%6
		a, b, c := anyPlace(r, n), anyPlace(r, n), anyPlace(r, n)
		p, q, s := a.point(), b.point(), c.point()
		m, _ := cons.Middle(p, q)
		if apart(t, m, p) != apart(t, m, q) {
			t.Errorf("P6.4: the middle of %v, %v", a, b)
		}
		o, _ := cons.Centre(p, q, s)
		if apart(t, o, p) != apart(t, o, q) || apart(t, o, q) != apart(t, o, s) {
			t.Errorf("P6.4: the centre of %v, %v, %v", a, b, c)
		}
		sharp := 0
		for _, l := range [][3]api.Point{{p, q, s}, {q, s, p}, {s, p, q}, {q, p, s}, {p, s, q}, {s, q, p}} {
			if x, _ := cons.Centre(l[0], l[1], l[2]); x != o {
				t.Errorf("P6.4: the centre of %#v is another than %#v", l, o)
			}
			if is, _ := cons.Sharp(l[0], l[1], l[2]); is {
				sharp++
			}
		}
		if sharp < 2 { // each angle is asked about twice
			t.Errorf("P6.4: no sharp angle of %v, %v, %v", a, b, c)
		}
		holdNearest(t, a, b, c)
		holdParts(t, a, b, c)
	}
}

// apart is Far2 of points that may be asked.
func apart(t *testing.T, p api.Point, q api.Point) api.Rat {
	t.Helper()
	x, e := cons.Far2(p, q)
	if e != api.OK {
		t.Fatalf("P6.4: error %d", e)
	}
	return x
}

// holdNearest holds that no place of a segment is nearer than Near2 tells.
func holdNearest(t *testing.T, a, b, p place) {
	t.Helper()
	near, _ := cons.Near2(a.point(), b.point(), p.point())
	for i := range 9 {
		x := apart(t, between(a, b, small(i, 8)).point(), p.point())
		if order, e := rat.Cmp(near, x); order > 0 || e != api.OK {
			t.Errorf("P6.4: %v of %v, %v is nearer to %v", small(i, 8), a, b, p)
		}
	}
}

// holdParts holds that a point within parts a triangle's area.
func holdParts(t *testing.T, a, b, c place) {
	t.Helper()
	inner := between(between(a, b, small(1, 3)), c, small(1, 5)).point()
	p, q, r := a.point(), b.point(), c.point()
	sum := rat.Of(0)
	for _, l := range [][2]api.Point{{p, q}, {q, r}, {r, p}} {
		part, _ := cons.Area2(l[0], l[1], inner)
		sum, _ = rat.Add(sum, part)
	}
	if whole, e := cons.Area2(p, q, r); whole != sum || e != api.OK {
		t.Errorf("P6.4: Area2 of %v, %v, %v: %#v, not %#v", a, b, c, whole, sum)
	}
}

// call is one of the calls: of how many points, and whether its answer is 0.
type call struct {
	name string
	n    int
	ask  func(l []api.Point) (bool, api.Errno)
}

// calls are all of them.
func calls() []call {
	number := func(f func(a, b, c api.Point) (api.Rat, api.Errno)) func(l []api.Point) (bool, api.Errno) {
		return func(l []api.Point) (bool, api.Errno) {
			x, e := f(l[0], l[1], l[2])
			return x == api.Rat{}, e
		}
	}
	return []call{
		{"Middle", 2, func(l []api.Point) (bool, api.Errno) {
			p, e := cons.Middle(l[0], l[1])
			return p == api.Point{}, e
		}},
		{"Centre", 3, func(l []api.Point) (bool, api.Errno) {
			p, e := cons.Centre(l[0], l[1], l[2])
			return p == api.Point{}, e
		}},
		{"Far2", 2, func(l []api.Point) (bool, api.Errno) {
			x, e := cons.Far2(l[0], l[1])
			return x == api.Rat{}, e
		}},
		{"Near2", 3, number(cons.Near2)}, {"Ratio2", 3, number(cons.Ratio2)}, {"Area2", 3, number(cons.Area2)},
		{"Sharp", 3, func(l []api.Point) (bool, api.Errno) {
			sharp, e := cons.Sharp(l[0], l[1], l[2])
			return !sharp, e
		}},
	}
}

// wrongPoint is one that may not be asked.
type wrongPoint struct {
	p api.Point
	e api.Errno
}

// wrongPoints are such: too long, not in their one form, and both.
func wrongPoints() []wrongPoint {
	good := rat.Of(1)
	nat := func(n int) api.Nat { return api.Nat(strings.Repeat("\x01", n)) }
	longWhole, longPart := api.Rat{Num: api.Int{Mag: nat(101)}, Den: "\x01"}, api.Rat{Num: whole.Of(1), Den: nat(101)}
	uncut, negative := api.Rat{Num: whole.Of(2), Den: "\x04"}, api.Rat{Num: api.Int{Neg: true}, Den: "\x01"}
	out := []wrongPoint(nil)
	for _, long := range []api.Rat{longWhole, longPart, {Num: whole.Of(1), Den: nat(8001)}} {
		out = append(out, wrongPoint{api.Point{X: long, Y: good}, api.ErrLimit}, wrongPoint{api.Point{X: good, Y: long}, api.ErrLimit})
		out = append(out, wrongPoint{api.Point{X: uncut, Y: long}, api.ErrLimit}, wrongPoint{api.Point{X: long, Y: uncut}, api.ErrLimit})
	}
	for _, wrong := range []api.Rat{uncut, negative, {}, {Num: whole.Of(1), Den: "\x00\x01"}, {Num: api.Int{Mag: "\x00\x01"}, Den: "\x01"}} {
		out = append(out, wrongPoint{api.Point{X: wrong, Y: good}, api.ErrArg}, wrongPoint{api.Point{X: good, Y: wrong}, api.ErrArg})
	}
	return out
}

// TestWrongPoints puts one or two points that may not be asked in every place, beside others that lie in a line or are one: the first one's error is told, ahead of all else.
func TestWrongPoints(t *testing.T) {
	wrong := wrongPoints()
	for _, c := range calls() {
		for _, w := range wrong {
			for _, other := range wrong {
				for first := range c.n {
					for second := first; second < c.n; second++ {
						for _, l := range [][]api.Point{{at(0, 0), at(1, 0), at(2, 0)}, {at(1, 1), at(1, 1), at(1, 1)}, {w.p, w.p, w.p}} {
							l[second] = other.p
							l[first] = w.p
							if none, e := c.ask(l); !none || e != w.e {
								t.Fatalf("P6.1 to P6.3: %s, point %d: error %d, not %d", c.name, first, e, w.e)
							}
						}
					}
				}
			}
		}
	}
}

// TestLongest puts a point of 100 bytes everywhere in every place: it may be asked, though the answer be longer.
func TestLongest(t *testing.T) {
	full := ratOf(fraction(random(), 100))
	if len(full.Num.Mag) != 100 || len(full.Den) != 100 {
		t.Fatalf("%d and %d bytes", len(full.Num.Mag), len(full.Den))
	}
	for _, c := range calls() {
		for i := range c.n {
			l := []api.Point{at(0, 0), at(1, 0), at(0, 1)}
			l[i] = api.Point{X: full, Y: full}
			if _, e := c.ask(l); e != api.OK {
				t.Errorf("P6.1 to P6.3: %s, point %d of 100 bytes: error %d", c.name, i, e)
			}
		}
	}
}
