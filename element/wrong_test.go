package element_test

import (
	"slices"
	"testing"

	"gusset/api"
	"gusset/element"
	"gusset/rat"
)

// call is one of the calls of n points: it tells its error, and whether all else that it answers is a zero value.
type call struct {
	name string
	n    int
	ask  func(l []api.Point) (bool, api.Errno)
}

// calls are all of them. Slope is asked with values that are wrong and too long, which counts for nothing where a point is wrong.
func calls() []call {
	return []call{
		{"Stiff", 3, func(l []api.Point) (bool, api.Errno) {
			s, e := element.Stiff(l[0], l[1], l[2])
			return s == [3][3]api.Rat{}, e
		}},
		{"Slope", 3, func(l []api.Point) (bool, api.Errno) {
			p, e := element.Slope(l[0], l[1], l[2], [3]api.Rat{{}, longs(3000)[0], rat.Of(1)})
			return p == api.Point{}, e
		}},
		{"Jump2", 4, func(l []api.Point) (bool, api.Errno) {
			x, e := element.Jump2(l[0], l[1], l[2], l[3])
			return x == api.Rat{}, e
		}},
	}
}

// wrongPoint is a point that may not be asked, with the error of it.
type wrongPoint struct {
	p api.Point
	e api.Errno
}

// wrongPoints have a wrong number as X or as Y; a length goes ahead of the other number's faults.
func wrongPoints() []wrongPoint {
	good, out := rat.Of(1), []wrongPoint(nil)
	for _, a := range wrongs() {
		out = append(out, wrongPoint{api.Point{X: a, Y: good}, api.ErrArg}, wrongPoint{api.Point{X: good, Y: a}, api.ErrArg})
	}
	for _, a := range longs(100) {
		out = append(out, wrongPoint{api.Point{X: a, Y: good}, api.ErrLimit}, wrongPoint{api.Point{X: good, Y: a}, api.ErrLimit})
		out = append(out, wrongPoint{api.Point{X: api.Rat{}, Y: a}, api.ErrLimit}, wrongPoint{api.Point{X: a, Y: api.Rat{}}, api.ErrLimit})
	}
	return out
}

// TestWrongPoints puts one or two points that may not be asked in every place: the first one's error is told, ahead of all else. The points lie in a line, which counts for nothing then.
func TestWrongPoints(t *testing.T) {
	for _, c := range calls() {
		for _, w := range wrongPoints() {
			for _, other := range wrongPoints() {
				for first := range c.n {
					for second := first; second < c.n; second++ {
						l := slices.Repeat([]api.Point{at(1, 1)}, c.n)
						l[second] = other.p
						l[first] = w.p
						if none, e := c.ask(l); !none || e != w.e {
							t.Fatalf("P17.1, P17.2, P17.3: %s, point %d, beside point %d: error %d, not %d", c.name, first, second, e, w.e)
						}
					}
				}
			}
		}
	}
}

// TestLongestPoints puts a number of 100 bytes above the stroke and below it in every place: it may be asked.
func TestLongestPoints(t *testing.T) {
	full := ratOf(fraction(random(), 100))
	if len(full.Num.Mag) != 100 || len(full.Den) != 100 {
		t.Fatalf("%d and %d bytes", len(full.Num.Mag), len(full.Den))
	}
	for place := range 8 {
		l := []api.Point{at(0, 0), at(1, 0), at(0, 1), at(2, 2)}
		if place%2 == 0 {
			l[place/2].X = full
		} else {
			l[place/2].Y = full
		}
		if _, e := element.Stiff(l[0], l[1], l[2]); e != api.OK {
			t.Errorf("P17.1: place %d: error %d", place, e)
		}
		if _, e := element.Slope(l[0], l[1], l[2], [3]api.Rat{full, full, full}); e != api.OK {
			t.Errorf("P17.2: place %d: error %d", place, e)
		}
		if _, e := element.Jump2(l[0], l[1], l[2], l[3]); e != api.OK {
			t.Errorf("P17.3: place %d: error %d", place, e)
		}
	}
}

// TestWrongValues puts one or two values that may not be in every place: any one's length is ahead of all others' faults, and each of these ahead of corners in a line.
func TestWrongValues(t *testing.T) {
	for _, third := range []api.Point{at(0, 1), at(2, 0)} { // the second one lies in a line with the others
		ask := func(u [3]api.Rat) (api.Point, api.Errno) { return element.Slope(at(0, 0), at(1, 0), third, u) }
		for place := range 3 {
			for _, w := range wrongs() {
				u := [3]api.Rat{rat.Of(1), rat.Of(2), rat.Of(3)}
				u[place] = w
				if p, e := ask(u); p != (api.Point{}) || e != api.ErrArg {
					t.Errorf("P17.2: place %d: %v, error %d", place, p, e)
				}
				for other := range 3 {
					for _, long := range longs(3000) {
						both := u
						both[other] = long
						if p, e := ask(both); p != (api.Point{}) || e != api.ErrLimit {
							t.Errorf("P17.2: places %d and %d: %v, error %d", place, other, p, e)
						}
					}
				}
			}
		}
	}
	for place := range 3 {
		for _, long := range longs(2999) {
			u := [3]api.Rat{rat.Of(1), rat.Of(2), rat.Of(3)}
			u[place] = long
			expected := api.OK
			if rat.Check(long) != api.OK {
				expected = rat.Check(long)
			}
			if _, e := element.Slope(at(0, 0), at(1, 0), at(0, 1), u); e != expected {
				t.Errorf("P17.2: 3000 bytes at place %d: error %d, not %d", place, e, expected)
			}
		}
	}
}
