package poly_test

import (
	"math/big"
	"strings"
	"testing"

	"gusset/api"
	"gusset/poly"
	"gusset/rat"
	"gusset/whole"
)

// hold asks every call about a polynomial and a triangle.
func hold(t *testing.T, c coefs, l [3]place) {
	t.Helper()
	f := c.poly()
	if e := poly.Check(f); e != api.OK {
		t.Fatalf("P7.1: Check of %v: error %d", c, e)
	}
	for _, p := range l {
		if x, e := poly.Eval(f, p.point()); x != wantEval(c, p) || e != api.OK {
			t.Fatalf("P7.2: Eval of %v at %v: %#v, error %d", c, p, x, e)
		}
	}
	want, ok := wanted(c, l)
	expected := api.OK
	if !ok {
		expected = api.ErrFlat
	}
	p, q, s := l[0].point(), l[1].point(), l[2].point()
	if x, e := poly.Integral(f, p, q, s); x != want.integral || e != expected {
		t.Fatalf("P7.2: Integral of %v over %v: %#v, error %d", c, l, x, e)
	}
	if x, e := poly.Loads(f, p, q, s); x != want.loads || e != expected {
		t.Fatalf("P7.2: Loads of %v over %v: %#v, error %d", c, l, x, e)
	}
	if x, e := poly.Square(f, p, q, s); x != want.square || e != expected {
		t.Fatalf("P7.2: Square of %v over %v: %#v, error %d", c, l, x, e)
	}
}

// TestGrid asks about all threes of nine places three by three: triangles that turn either way, points in a line, and points that are one. Each number of the polynomials is there alone, and all together.
func TestGrid(t *testing.T) {
	places := []place(nil)
	for i := range 9 {
		places = append(places, place{small(i%3-1, 1), small(2*(i/3)-1, 3)})
	}
	all := []coefs{smallCoefs(0, 0, 0, 0, 0, 0), smallCoefs(1, 2, -3, 4, 5, -6), smallCoefs(-7, 1, 1, 0, 2, 3)}
	for i := range 6 {
		alone := smallCoefs(0, 0, 0, 0, 0, 0)
		alone[i] = small(1, 1)
		all = append(all, alone)
	}
	for i := range 9 * 9 * 9 {
		l := [3]place{places[i%9], places[i/9%9], places[i/81]}
		hold(t, all[i%len(all)], l)
		hold(t, all[(i/9+i/81)%len(all)], l)
	}
}

func TestManyBytes(t *testing.T) {
	r := random()
	for n := 1; n <= 100; n += 1 + n/12 {
		hold(t, anyCoefs(r, n), [3]place{anyPlace(r, n), anyPlace(r, n), anyPlace(r, n)})
	}
	for range 3 {
		c := coefs{}
		for i := range c {
			c[i] = fraction(r, 100)
		}
		hold(t, c, [3]place{anyPlace(r, 100), anyPlace(r, 100), anyPlace(r, 100)})
	}
}

// TestSharedDenominators asks about numbers whose denominators have much in common, as those of refined meshes do.
func TestSharedDenominators(t *testing.T) {
	r := random()
	for range 100 {
		number := func() *big.Rat {
			under := []int{1, 2, 4, 8, 6, 12, 64, 1024}[r.IntN(8)]
			return small(r.IntN(400)-200, under)
		}
		c := coefs{}
		for i := range c {
			c[i] = number()
		}
		hold(t, c, [3]place{{number(), number()}, {number(), number()}, {number(), number()}})
	}
}

// TestInLine asks about points in a line, and nearly so.
func TestInLine(t *testing.T) {
	r := random()
	tiny := new(big.Rat).SetFrac(big.NewInt(1), new(big.Int).Lsh(big.NewInt(1), 200))
	for range 5 {
		a, b, part := anyPlace(r, 9), anyPlace(r, 9), fraction(r, 3)
		p := place{plus(a.x, times(part, minus(b.x, a.x))), plus(a.y, times(part, minus(b.y, a.y)))}
		for _, step := range []*big.Rat{tiny, new(big.Rat), new(big.Rat).Neg(tiny)} {
			moved := place{p.x, plus(p.y, step)}
			for _, l := range [][3]place{{a, b, moved}, {b, a, moved}, {moved, a, b}, {a, moved, b}, {a, a, moved}, {moved, b, b}, {a, b, a}, {b, b, b}} {
				hold(t, anyCoefs(r, 5), l)
			}
		}
	}
}

func at(x, y int) api.Point { return api.Point{X: rat.Of(x), Y: rat.Of(y)} }

func TestExamples(t *testing.T) {
	one, x := smallCoefs(1, 0, 0, 0, 0, 0).poly(), smallCoefs(0, 1, 0, 0, 0, 0).poly()
	a, b, c := at(0, 0), at(2, 0), at(0, 2)
	if n, e := poly.Integral(one, a, b, c); n != rat.Of(2) || e != api.OK {
		t.Errorf("P7.2: Integral of 1: %#v, error %d", n, e)
	}
	if n, e := poly.Integral(x, a, b, c); n != ratOf(small(4, 3)) || e != api.OK {
		t.Errorf("P7.2: Integral of X: %#v, error %d", n, e)
	}
	third := ratOf(small(2, 3))
	if l, e := poly.Loads(one, a, b, c); l != [3]api.Rat{third, third, third} || e != api.OK {
		t.Errorf("P7.2: Loads of 1: %#v, error %d", l, e)
	}
	if n, e := poly.Square(x, a, at(1, 0), at(0, 1)); n != ratOf(small(1, 12)) || e != api.OK {
		t.Errorf("P7.2: Square of X: %#v, error %d", n, e)
	}
	if n, e := poly.Eval(smallCoefs(1, 2, 3, 4, 5, 6).poly(), at(10, -1)); n != rat.Of(1+20-3+400-50+6) || e != api.OK {
		t.Errorf("P7.2: Eval: %#v, error %d", n, e)
	}
}

// reckoned is what rat makes of numbers that may be.
func reckoned(t *testing.T, call func(a, b api.Rat) (api.Rat, api.Errno), a, b api.Rat) api.Rat {
	t.Helper()
	x, e := call(a, b)
	if e != api.OK {
		t.Fatalf("error %d", e)
	}
	return x
}

// TestLinear holds that Integral and Loads of k f + g are k times those of f, and those of g.
func TestLinear(t *testing.T) {
	r := random()
	for n := 1; n <= 20; n++ {
		f, g, k, mixed := anyCoefs(r, n), anyCoefs(r, n), fraction(r, 2), coefs{}
		for i := range mixed {
			mixed[i] = plus(times(k, f[i]), g[i])
		}
		a, b, c := anyPlace(r, n).point(), anyPlace(r, n).point(), anyPlace(r, n).point()
		mix := func(x, y api.Rat) api.Rat {
			return reckoned(t, rat.Add, reckoned(t, rat.Mul, ratOf(k), x), y)
		}
		x, _ := poly.Integral(f.poly(), a, b, c)
		y, _ := poly.Integral(g.poly(), a, b, c)
		if z, e := poly.Integral(mixed.poly(), a, b, c); z != mix(x, y) || e != api.OK {
			t.Errorf("P7.3: Integral of a sum: error %d", e)
		}
		l, _ := poly.Loads(f.poly(), a, b, c)
		m, _ := poly.Loads(g.poly(), a, b, c)
		if z, e := poly.Loads(mixed.poly(), a, b, c); z != [3]api.Rat{mix(l[0], m[0]), mix(l[1], m[1]), mix(l[2], m[2])} || e != api.OK {
			t.Errorf("P7.3: Loads of a sum: error %d", e)
		}
	}
}

// TestOrders holds what comes of another order of the corners, and that Loads are the Integral together.
func TestOrders(t *testing.T) {
	r := random()
	for n := 1; n <= 20; n++ {
		f, l := anyCoefs(r, n).poly(), [3]api.Point{anyPlace(r, n).point(), anyPlace(r, n).point(), anyPlace(r, n).point()}
		integral, _ := poly.Integral(f, l[0], l[1], l[2])
		loads, _ := poly.Loads(f, l[0], l[1], l[2])
		square, _ := poly.Square(f, l[0], l[1], l[2])
		if sum := reckoned(t, rat.Add, loads[0], reckoned(t, rat.Add, loads[1], loads[2])); sum != integral {
			t.Errorf("P7.3: the Loads are %#v together, not %#v", sum, integral)
		}
		for _, o := range [][3]int{{1, 2, 0}, {2, 0, 1}, {1, 0, 2}, {0, 2, 1}, {2, 1, 0}} {
			a, b, c := l[o[0]], l[o[1]], l[o[2]]
			if x, e := poly.Integral(f, a, b, c); x != integral || e != api.OK {
				t.Errorf("P7.3: Integral in order %v: %#v, error %d", o, x, e)
			}
			if x, e := poly.Square(f, a, b, c); x != square || e != api.OK {
				t.Errorf("P7.3: Square in order %v: %#v, error %d", o, x, e)
			}
			if x, e := poly.Loads(f, a, b, c); x != [3]api.Rat{loads[o[0]], loads[o[1]], loads[o[2]]} || e != api.OK {
				t.Errorf("P7.3: Loads in order %v: %#v, error %d", o, x, e)
			}
		}
	}
}

// TestSquareSign holds that a Square is 0 just of the Poly 0: others are above it, be they 0 at corners, at middles, or all along an edge.
func TestSquareSign(t *testing.T) {
	a, b, c := at(0, 0), at(2, 0), at(0, 2)
	if x, e := poly.Square(smallCoefs(0, 0, 0, 0, 0, 0).poly(), a, b, c); x != rat.Of(0) || e != api.OK {
		t.Errorf("P7.3: Square of 0: %#v, error %d", x, e)
	}
	l := []coefs{smallCoefs(0, -2, -2, 1, 1, 1), smallCoefs(0, 0, 0, 0, 1, 0), smallCoefs(1, -3, 0, 1, 3, 0), smallCoefs(0, 2, 0, -1, -1, 0), smallCoefs(-4, 0, 0, 1, 0, 1)}
	for i := range 6 {
		for _, n := range []*big.Rat{small(1, 1), small(-1, 1), new(big.Rat).SetFrac(big.NewInt(-1), new(big.Int).Lsh(big.NewInt(1), 799))} {
			alone := smallCoefs(0, 0, 0, 0, 0, 0)
			alone[i] = n
			l = append(l, alone)
		}
	}
	for _, f := range l {
		x, e := poly.Square(f.poly(), c, a, b)
		if sign, wrong := rat.Sign(x); sign != 1 || e != api.OK || wrong != api.OK {
			t.Errorf("P7.3: Square of %v: %#v, error %d", f, x, e)
		}
	}
}

// call is one of the calls: of how many numbers (six of a Poly, two of each point), and whether its answer is 0.
type call struct {
	name string
	n    int
	ask  func(l []api.Rat) (bool, api.Errno)
}

// calls are all of them.
func calls() []call {
	first := func(l []api.Rat) api.Poly { return api.Poly(l[:6]) }
	point := func(l []api.Rat, i int) api.Point { return api.Point{X: l[6+2*i], Y: l[7+2*i]} }
	number := func(f func(f api.Poly, a, b, c api.Point) (api.Rat, api.Errno)) func(l []api.Rat) (bool, api.Errno) {
		return func(l []api.Rat) (bool, api.Errno) {
			x, e := f(first(l), point(l, 0), point(l, 1), point(l, 2))
			return x == api.Rat{}, e
		}
	}
	return []call{
		{"Check", 6, func(l []api.Rat) (bool, api.Errno) { return true, poly.Check(first(l)) }},
		{"Eval", 8, func(l []api.Rat) (bool, api.Errno) {
			x, e := poly.Eval(first(l), point(l, 0))
			return x == api.Rat{}, e
		}},
		{"Integral", 12, number(poly.Integral)}, {"Square", 12, number(poly.Square)},
		{"Loads", 12, func(l []api.Rat) (bool, api.Errno) {
			x, e := poly.Loads(first(l), point(l, 0), point(l, 1), point(l, 2))
			return x == [3]api.Rat{}, e
		}},
	}
}

// wrong is a number that may not be asked.
type wrong struct {
	a api.Rat
	e api.Errno
}

func nat(n int) api.Nat { return api.Nat(strings.Repeat("\x01", n)) }

// wrongs are such: too long, not in their one form, and both.
func wrongs() []wrong {
	one := whole.Of(1)
	return []wrong{
		{api.Rat{Num: api.Int{Mag: nat(101)}, Den: "\x01"}, api.ErrLimit}, {api.Rat{Num: one, Den: nat(101)}, api.ErrLimit},
		{api.Rat{Num: api.Int{Neg: true, Mag: nat(8001)}, Den: "\x01"}, api.ErrLimit}, {api.Rat{Num: one, Den: nat(8001)}, api.ErrLimit},
		{api.Rat{Num: api.Int{Mag: nat(101)}, Den: nat(101)}, api.ErrLimit}, {api.Rat{Num: api.Int{Mag: "\x00" + nat(100)}, Den: "\x01"}, api.ErrLimit},
		{api.Rat{Num: api.Int{Neg: true}, Den: nat(101)}, api.ErrLimit}, {api.Rat{Num: api.Int{Mag: nat(101)}}, api.ErrLimit},
		{api.Rat{}, api.ErrArg}, {api.Rat{Num: one}, api.ErrArg}, {api.Rat{Num: api.Int{Neg: true}, Den: "\x01"}, api.ErrArg},
		{api.Rat{Num: whole.Of(2), Den: "\x04"}, api.ErrArg}, {api.Rat{Den: "\x02"}, api.ErrArg}, {api.Rat{Num: one, Den: "\x00\x01"}, api.ErrArg},
		{api.Rat{Num: api.Int{Mag: "\x00\x01"}, Den: "\x01"}, api.ErrArg}, {api.Rat{Num: api.Int{Mag: nat(100)}, Den: nat(100)}, api.ErrArg},
	}
}

// TestWrongNumbers puts one or two numbers that may not be asked in every place: the first one's error is told, ahead of all else; so an X that is wrong goes ahead of a Y that is too long. The points lie in a line, which counts for nothing then.
func TestWrongNumbers(t *testing.T) {
	l := wrongs()
	for _, c := range calls() {
		for _, w := range l {
			for _, other := range l {
				for first := range c.n {
					for second := first; second < c.n; second++ {
						numbers := make([]api.Rat, c.n)
						for i := range numbers {
							numbers[i] = rat.Of(i / 2)
						}
						numbers[second] = other.a
						numbers[first] = w.a
						if none, e := c.ask(numbers); !none || e != w.e {
							t.Fatalf("P7.1: %s, number %d, beside number %d: error %d, not %d", c.name, first, second, e, w.e)
						}
					}
				}
			}
		}
	}
}

// TestLongest puts a number of 100 bytes above the stroke and below it in every place: it may be asked, though the answer be longer.
func TestLongest(t *testing.T) {
	full := ratOf(fraction(random(), 100))
	if len(full.Num.Mag) != 100 || len(full.Den) != 100 {
		t.Fatalf("%d and %d bytes", len(full.Num.Mag), len(full.Den))
	}
	for _, c := range calls() {
		for i := range c.n {
			numbers := []api.Rat{}
			for _, n := range []int{1, 2, 3, 4, 5, 6, 0, 0, 1, 0, 0, 1} {
				numbers = append(numbers, rat.Of(n))
			}
			numbers[i] = full
			if _, e := c.ask(numbers); e != api.OK {
				t.Errorf("P7.1: %s, number %d of 100 bytes: error %d", c.name, i, e)
			}
		}
	}
}

// TestAskedAgain holds that what is asked again is the same, and that nothing that is answered hangs together.
func TestAskedAgain(t *testing.T) {
	r := random()
	f, l := anyCoefs(r, 30).poly(), [3]api.Point{anyPlace(r, 30).point(), anyPlace(r, 30).point(), anyPlace(r, 30).point()}
	loads, _ := poly.Loads(f, l[0], l[1], l[2])
	square, _ := poly.Square(f, l[0], l[1], l[2])
	for range 3 {
		again, _ := poly.Loads(f, l[0], l[1], l[2])
		if x, _ := poly.Square(f, l[0], l[1], l[2]); again != loads || x != square {
			t.Error("R6: what is asked again is another")
		}
	}
}
