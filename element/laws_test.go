package element_test

import (
	"testing"

	"gusset/api"
	"gusset/element"
	"gusset/rat"
	"gusset/vec"
)

// reckoned is what rat makes of numbers that may be.
func reckoned(t *testing.T, call func(a, b api.Rat) (api.Rat, api.Errno), a, b api.Rat) api.Rat {
	t.Helper()
	x, e := call(a, b)
	if e != api.OK {
		t.Fatalf("error %d", e)
	}
	return x
}

// stiffOf is Stiff of a triangle, which is not flat.
func stiffOf(t *testing.T, l triangle) [3][3]api.Rat {
	t.Helper()
	s, e := element.Stiff(l[0].point(), l[1].point(), l[2].point())
	if e != api.OK {
		t.Fatalf("P17.1: %v: error %d", l, e)
	}
	return s
}

// TestRows holds that Stiff is symmetric, and each row's sum is 0.
func TestRows(t *testing.T) {
	r := random()
	for n := 1; n <= 30; n++ {
		s := stiffOf(t, anyTriangle(r, n))
		for i, row := range s {
			if sum := reckoned(t, rat.Add, row[0], reckoned(t, rat.Add, row[1], row[2])); sum != rat.Of(0) {
				t.Errorf("P17.4: row %d: %v", i, sum)
			}
			for k := range row {
				if s[i][k] != s[k][i] {
					t.Errorf("P17.4: row %d, column %d: %v and %v", i, k, s[i][k], s[k][i])
				}
			}
		}
	}
}

// TestProducts holds that Stiff's products with values on both sides are the area times the slope's square.
func TestProducts(t *testing.T) {
	r := random()
	for n := 1; n <= 20; n++ {
		l, v := anyTriangle(r, n), anyValues(r, n).rats()
		slope, e := element.Slope(l[0].point(), l[1].point(), l[2].point(), v)
		if e != api.OK {
			t.Fatalf("P17.2: error %d", e)
		}
		sum := rat.Of(0)
		for i, row := range stiffOf(t, l) {
			for k, x := range row {
				sum = reckoned(t, rat.Add, sum, reckoned(t, rat.Mul, x, reckoned(t, rat.Mul, v[i], v[k])))
			}
		}
		square, _ := vec.Norm2(slope)
		area := l.area2()
		if want := reckoned(t, rat.Mul, square, ratOf(times(area.Abs(area), small(1, 2)))); sum != want {
			t.Errorf("P17.4: %v, not %v", sum, want)
		}
	}
}

// TestMoves holds that Stiff stays, if the triangle is moved, turned by a right angle, mirrored or drawn larger; and that in another order its rows and columns change places.
func TestMoves(t *testing.T) {
	r := random()
	for n := 1; n <= 20; n++ {
		l, move, larger := anyTriangle(r, n), anyPlace(r, n), fraction(r, n)
		want := stiffOf(t, l)
		for i, draw := range []func(p place) place{
			func(p place) place { return place{plus(p.x, move.x), plus(p.y, move.y)} },
			func(p place) place { return place{minus(small(0, 1), p.y), p.x} },
			func(p place) place { return place{p.y, p.x} },
			func(p place) place { return place{times(p.x, larger), times(p.y, larger)} },
		} {
			if s := stiffOf(t, triangle{draw(l[0]), draw(l[1]), draw(l[2])}); s != want {
				t.Errorf("P17.4: drawn elsewhere, case %d: %v, not %v", i, s, want)
			}
		}
		for _, o := range [][3]int{{1, 2, 0}, {2, 0, 1}, {1, 0, 2}, {0, 2, 1}, {2, 1, 0}} {
			s := stiffOf(t, triangle{l[o[0]], l[o[1]], l[o[2]]})
			for i := range s {
				for k := range s {
					if s[i][k] != want[o[i]][o[k]] {
						t.Errorf("P17.4: in order %v: %v, not %v", o, s, want)
					}
				}
			}
		}
	}
}

// TestOwnSlope holds that a function that is linear everywhere has its own slope on each triangle.
func TestOwnSlope(t *testing.T) {
	r := random()
	for n := 1; n <= 30; n++ {
		slope, first, l, v := anyPlace(r, n), fraction(r, n), anyTriangle(r, n), values{}
		for i, p := range l {
			v[i] = plus(first, slope.dot(p))
		}
		if p, e := element.Slope(l[0].point(), l[1].point(), l[2].point(), v.rats()); p != slope.point() || e != api.OK {
			t.Errorf("P17.4: %v, not %v, error %d", p, slope, e)
		}
	}
}
