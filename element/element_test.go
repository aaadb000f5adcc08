package element_test

import (
	"math/big"
	"testing"

	"gusset/api"
	"gusset/element"
	"gusset/rat"
)

// hold asks about a triangle, and the slope of a function on it.
func hold(t *testing.T, l triangle, v values) {
	t.Helper()
	a, b, c := l[0].point(), l[1].point(), l[2].point()
	stiff, e := element.Stiff(a, b, c)
	slope, f := element.Slope(a, b, c, v.rats())
	if l.area2().Sign() == 0 {
		if stiff != [3][3]api.Rat{} || e != api.ErrFlat {
			t.Fatalf("P17.1: Stiff of %v: %v, error %d", l, stiff, e)
		}
		if slope != (api.Point{}) || f != api.ErrFlat {
			t.Fatalf("P17.2: Slope of %v: %v, error %d", l, slope, f)
		}
		return
	}
	if stiff != l.stiff() || e != api.OK {
		t.Fatalf("P17.1: Stiff of %v: %v, error %d", l, stiff, e)
	}
	if slope != l.slope(v).point() || f != api.OK {
		t.Fatalf("P17.2: Slope of %v, %v: %v, error %d", l, v, slope, f)
	}
}

// TestGrid asks about all threes of nine places three by three: triangles that turn either way, points in a line, and points that are one.
func TestGrid(t *testing.T) {
	places := []place(nil)
	for i := range 9 {
		places = append(places, place{small(i%3-1, 1), small(2*(i/3)-1, 3)})
	}
	for i := range 9 * 9 * 9 {
		hold(t, triangle{places[i%9], places[i/9%9], places[i/81]}, values{small(i%7-3, 1), small(i%5-2, 4), small(i%11, 3)})
	}
}

func TestManyBytes(t *testing.T) {
	r := random()
	for n := 1; n <= 100; n += 1 + n/12 {
		hold(t, anyTriangle(r, n), anyValues(r, n))
		hold(t, anyTriangle(r, n), values{new(big.Rat), fraction(r, 3*n), small(-1, 1)})
	}
}

// TestInLine asks about points in a line, and nearly so.
func TestInLine(t *testing.T) {
	r := random()
	tiny := new(big.Rat).SetFrac(big.NewInt(1), new(big.Int).Lsh(big.NewInt(1), 200))
	for range 5 {
		a, b, part := anyPlace(r, 9), anyPlace(r, 9), fraction(r, 3)
		p := place{plus(a.x, times(part, minus(b.x, a.x))), plus(a.y, times(part, minus(b.y, a.y)))}
		for _, step := range []*big.Rat{tiny, new(big.Rat), new(big.Rat).Neg(tiny)} {
			moved := place{p.x, plus(p.y, step)}
			for _, l := range []triangle{{a, b, moved}, {b, a, moved}, {moved, a, b}, {a, moved, b}, {a, a, moved}, {moved, b, b}, {a, b, a}, {b, b, b}} {
				hold(t, l, anyValues(r, 7))
			}
		}
	}
}

// TestLongValues asks for slopes of functions with long values. With 600 bytes there is always one; with 3000 there is none just where it would have more than 8000 bytes.
func TestLongValues(t *testing.T) {
	r := random()
	for range 4 {
		hold(t, anyTriangle(r, 100), anyValues(r, 600))
	}
	greatest := new(big.Rat).SetInt(new(big.Int).Sub(new(big.Int).Lsh(big.NewInt(1), 8*3000), big.NewInt(1)))
	hold(t, anyTriangle(r, 100), values{greatest, new(big.Rat).Neg(greatest), new(big.Rat).Inv(greatest)})
	told, refused := 0, 0
	for i := range 14 {
		n := 2400 + 100*(i/2)
		l, v := anyTriangle(r, 70), anyValues(r, n)
		if i%2 == 0 {
			v[1], v[2] = new(big.Rat).Neg(v[0]), new(big.Rat).Inv(v[0]) // with less below all strokes together
		}
		want := l.slope(v).point()
		longest := max(len(want.X.Num.Mag), len(want.X.Den), len(want.Y.Num.Mag), len(want.Y.Den))
		expected := api.OK
		told++
		if longest > 8000 {
			want, expected = api.Point{}, api.ErrLimit
			told, refused = told-1, refused+1
		}
		if p, e := element.Slope(l[0].point(), l[1].point(), l[2].point(), v.rats()); p != want || e != expected {
			t.Errorf("P17.2, R7: %d bytes, of which %d come: error %d", n, longest, e)
		}
	}
	if told < 4 || refused < 2 {
		t.Errorf("%d told, %d refused", told, refused)
	}
	upright, v := anyTriangle(r, 9), anyValues(r, 3000)
	upright[1].x = upright[0].x // of one number of the slope two values alone are left
	flat := triangle{{upright[0].y, upright[0].x}, {upright[1].y, upright[1].x}, {upright[2].y, upright[2].x}}
	for _, l := range []triangle{upright, flat} {
		if p, e := element.Slope(l[0].point(), l[1].point(), l[2].point(), v.rats()); p != (api.Point{}) || e != api.ErrLimit {
			t.Errorf("R7: one number of two is too long: error %d", e)
		}
	}
}

func holdJump(t *testing.T, p, q, a, b place) {
	t.Helper()
	cross := b.less(a).cross(p.less(q))
	if x, e := element.Jump2(p.point(), q.point(), a.point(), b.point()); x != ratOf(times(cross, cross)) || e != api.OK {
		t.Fatalf("P17.3: Jump2 of %v, %v, %v, %v: %v, error %d", p, q, a, b, x, e)
	}
}

func TestJump2(t *testing.T) {
	r := random()
	places := []place(nil)
	for i := range 6 {
		places = append(places, place{small(i%3-1, 1), small(3*(i/3)-1, 2)})
	}
	for i := range 6 * 6 * 6 * 6 {
		holdJump(t, places[i%6], places[i/6%6], places[i/36%6], places[i/216])
	}
	for n := 1; n <= 100; n += 1 + n/12 {
		p, q, a, b := anyPlace(r, n), anyPlace(r, n), anyPlace(r, n), anyPlace(r, n)
		holdJump(t, p, q, a, b)
		holdJump(t, p, q, a, a)
		holdJump(t, p, p, a, b)
		holdJump(t, p, q, p, q)
	}
}

func TestExamples(t *testing.T) {
	part := func(n, d int) api.Rat { return ratOf(small(n, d)) }
	want := [3][3]api.Rat{
		{part(1, 1), part(-1, 2), part(-1, 2)},
		{part(-1, 2), part(1, 2), part(0, 1)},
		{part(-1, 2), part(0, 1), part(1, 2)},
	}
	if s, e := element.Stiff(at(0, 0), at(1, 0), at(0, 1)); s != want || e != api.OK {
		t.Errorf("P17.1: %v, error %d", s, e)
	}
	if p, e := element.Slope(at(0, 0), at(1, 0), at(0, 1), [3]api.Rat{rat.Of(0), rat.Of(3), rat.Of(5)}); p != at(3, 5) || e != api.OK {
		t.Errorf("P17.2: %v, error %d", p, e)
	}
	if x, e := element.Jump2(at(3, 5), at(1, 5), at(0, 0), at(0, 3)); x != rat.Of(36) || e != api.OK {
		t.Errorf("P17.3: %v, error %d", x, e)
	}
}

// TestAskedAgain holds that what is asked again is the same, with whatever is asked between.
func TestAskedAgain(t *testing.T) {
	r := random()
	l, v := anyTriangle(r, 30), anyValues(r, 30)
	for range 3 {
		hold(t, l, v)
		hold(t, anyTriangle(r, 9), anyValues(r, 2000))
	}
}
