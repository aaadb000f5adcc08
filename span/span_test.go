package span_test

import (
	"math/big"
	"math/rand/v2"
	"strings"
	"testing"

	"gusset/api"
	"gusset/rat"
	"gusset/span"
	"gusset/whole"
)

// fraction is a number of n bytes at most above the stroke and below it, of either sign; of three one has the given denominator.
func fraction(r *rand.Rand, n int, under *big.Int) *big.Rat {
	part := func() *big.Int {
		bytes := make([]byte, n)
		for i := range bytes {
			bytes[i] = byte(r.Uint32())
		}
		return new(big.Int).SetBytes(bytes)
	}
	x, y := part(), part()
	if y.Sign() == 0 || r.IntN(3) == 0 {
		y = under
	}
	if r.IntN(2) == 0 {
		x.Neg(x)
	}
	return new(big.Rat).SetFrac(x, y)
}

// ratOf is a number of the library as a Rat: what the answers are held against.
func ratOf(x *big.Rat) api.Rat {
	num := api.Int{Neg: x.Sign() < 0, Mag: api.Nat(x.Num().Bytes())}
	return api.Rat{Num: num, Den: api.Nat(x.Denom().Bytes())}
}

// quotient is what the library makes of a number and of others, by which it is divided.
func quotient(a span.Number, units ...span.Number) *big.Rat {
	out := new(big.Rat).SetInt(intOf(a))
	for _, b := range units {
		out.Quo(out, new(big.Rat).SetInt(intOf(b)))
	}
	return out
}

// intOf is a number as one of the library.
func intOf(a span.Number) *big.Int {
	text := a.Int()
	x := new(big.Int).SetBytes([]byte(text.Mag))
	if text.Neg {
		x.Neg(x)
	}
	return x
}

func times(x *big.Rat, y *big.Rat) *big.Rat { return new(big.Rat).Mul(x, y) }
func plus(x *big.Rat, y *big.Rat) *big.Rat  { return new(big.Rat).Add(x, y) }
func minus(x *big.Rat, y *big.Rat) *big.Rat { return new(big.Rat).Sub(x, y) }

func TestWays(t *testing.T) {
	r := rand.New(rand.NewPCG(21, 22))
	for i := range 600 {
		n := 1 + i%100
		under := big.NewInt(int64(1 + r.IntN(9)))
		l := make([]*big.Rat, 8)
		for k := range l {
			l[k] = fraction(r, n, under)
		}
		point := func(k int) api.Point { return api.Point{X: ratOf(l[k]), Y: ratOf(l[k+1])} }
		u, v := span.Of(point(0), point(2)), span.Of(point(4), point(6))
		ux, uy, vx, vy := minus(l[2], l[0]), minus(l[3], l[1]), minus(l[6], l[4]), minus(l[7], l[5])
		if u.Unit.Sign() != 1 || quotient(u.X, u.Unit).Cmp(ux) != 0 || quotient(u.Y, u.Unit).Cmp(uy) != 0 {
			t.Fatalf("case %d: the way of %v, %v to %v, %v", i, l[0], l[1], l[2], l[3])
		}
		if turn := span.Turn(point(0), point(2), point(4)); turn != minus(times(ux, minus(l[5], l[1])), times(uy, minus(l[4], l[0]))).Sign() {
			t.Errorf("case %d: Turn: %d", i, turn)
		}
		if quotient(u.Cross(v), u.Unit, v.Unit).Cmp(minus(times(ux, vy), times(uy, vx))) != 0 {
			t.Errorf("case %d: Cross", i)
		}
		if quotient(u.Dot(v), u.Unit, v.Unit).Cmp(plus(times(ux, vx), times(uy, vy))) != 0 {
			t.Errorf("case %d: Dot", i)
		}
		if quotient(u.Square(), u.Unit, u.Unit).Cmp(plus(times(ux, ux), times(uy, uy))) != 0 {
			t.Errorf("case %d: Square", i)
		}
		left := u.Turned()
		if quotient(left.X, left.Unit).Cmp(minus(new(big.Rat), uy)) != 0 || quotient(left.Y, left.Unit).Cmp(ux) != 0 || left.Dot(u).Sign() != 0 || left.Unit.Sign() != 1 {
			t.Errorf("case %d: Turned", i)
		}
		both := u.Plus(v)
		if both.Unit.Sign() != 1 || quotient(both.X, both.Unit).Cmp(plus(ux, vx)) != 0 || quotient(both.Y, both.Unit).Cmp(plus(uy, vy)) != 0 {
			t.Errorf("case %d: Plus", i)
		}
	}
}

// TestCircle holds circles against their centres, and the order of points against that of their numbers.
func TestCircle(t *testing.T) {
	r := rand.New(rand.NewPCG(23, 24))
	asked := [3]int{}
	for i := range 300 {
		l := make([]*big.Rat, 8)
		for k := range l {
			l[k] = fraction(r, 1+i%12, big.NewInt(1))
			if i < 200 { // a small grid, where many lie on circles, and have the same X
				l[k] = big.NewRat(int64(r.IntN(5)), int64(1+i%3))
			}
		}
		point := func(k int) api.Point { return api.Point{X: ratOf(l[2*k]), Y: ratOf(l[2*k+1])} }
		order := l[0].Cmp(l[2])
		if order == 0 {
			order = l[1].Cmp(l[3])
		}
		if got := span.Order(point(0), point(1)); got != order {
			t.Errorf("case %d: Order: %d", i, got)
		}
		if span.Turn(point(0), point(1), point(2)) <= 0 {
			continue
		}
		way := func(k int) (*big.Rat, *big.Rat) { return minus(l[2*k], l[0]), minus(l[2*k+1], l[1]) } // from the first
		bx, by := way(1)
		cx, cy := way(2)
		dx, dy := way(3)
		b2, c2 := plus(times(bx, bx), times(by, by)), plus(times(cx, cx), times(cy, cy))
		under := times(big.NewRat(2, 1), minus(times(bx, cy), times(by, cx)))
		x, y := new(big.Rat).Quo(minus(times(cy, b2), times(by, c2)), under), new(big.Rat).Quo(minus(times(bx, c2), times(cx, b2)), under)
		farX, farY := minus(dx, x), minus(dy, y)
		want := plus(times(x, x), times(y, y)).Cmp(plus(times(farX, farX), times(farY, farY)))
		if got := span.Circle(point(0), point(1), point(2), point(3)); got != want {
			t.Errorf("case %d: Circle: %d, not %d", i, got, want)
		}
		asked[want+1]++
	}
	if min(asked[0], asked[1], asked[2]) < 10 {
		t.Errorf("outside, on and within: %v", asked)
	}
}

// TestToCentre holds the way to a circle's centre against how far that is from all three points, whichever way these turn.
func TestToCentre(t *testing.T) {
	r := rand.New(rand.NewPCG(25, 26))
	asked := [3]int{}
	for i := range 300 {
		l := make([]*big.Rat, 6)
		for k := range l {
			l[k] = fraction(r, 1+i%50, big.NewInt(1))
			if i < 150 {
				l[k] = big.NewRat(int64(r.IntN(5)), int64(1+i%3))
			}
		}
		point := func(k int) api.Point { return api.Point{X: ratOf(l[2*k]), Y: ratOf(l[2*k+1])} }
		turn := span.Turn(point(0), point(1), point(2))
		asked[turn+1]++
		way, found := span.ToCentre(point(0), point(1), point(2))
		if found != (turn != 0) {
			t.Fatalf("case %d: %v, but they turn by %d", i, found, turn)
		}
		if !found {
			continue
		}
		x, y := plus(l[0], quotient(way.X, way.Unit)), plus(l[1], quotient(way.Y, way.Unit))
		far := func(k int) *big.Rat {
			u, v := minus(l[2*k], x), minus(l[2*k+1], y)
			return plus(times(u, u), times(v, v))
		}
		if way.Unit.Sign() != 1 || far(0).Cmp(far(1)) != 0 || far(0).Cmp(far(2)) != 0 {
			t.Errorf("case %d: %v, %v is no centre of %v", i, x, y, l)
		}
	}
	if min(asked[0], asked[1], asked[2]) < 10 {
		t.Errorf("to the right, in a line, to the left: %v", asked)
	}
}

// TestShort holds that denominators that are the same are not multiplied: so numbers stay short.
func TestShort(t *testing.T) {
	third := func(n int) api.Rat { return api.Rat{Num: whole.Of(n), Den: "\x03"} }
	u := span.Of(api.Point{X: third(1), Y: third(4)}, api.Point{X: third(5), Y: third(2)})
	if u.X.Int() != whole.Of(4) || u.Y.Int() != whole.Of(-2) || u.Unit.Int() != whole.Of(3) {
		t.Errorf("%v", u)
	}
}

// TestNumbers asks about numbers of either sign, 0 and 1 among them, which ways have brought.
func TestNumbers(t *testing.T) {
	origin := api.Point{X: rat.Of(0), Y: rat.Of(0)}
	l := []*big.Int{big.NewInt(0), big.NewInt(1), big.NewInt(-1), big.NewInt(2), big.NewInt(-300), new(big.Int).Lsh(big.NewInt(-5), 700), new(big.Int).Lsh(big.NewInt(1), 64)}
	number := func(x *big.Int) span.Number {
		return span.Of(origin, api.Point{X: ratOf(new(big.Rat).SetInt(x)), Y: rat.Of(0)}).X
	}
	for _, x := range l {
		a := number(x)
		if intOf(a).Cmp(x) != 0 || a.Sign() != x.Sign() || intOf(a.Size()).Cmp(new(big.Int).Abs(x)) != 0 {
			t.Errorf("%v is %#v, of sign %d", x, a.Int(), a.Sign())
		}
		for _, y := range l {
			b := number(y)
			for i, pair := range []struct {
				got  span.Number
				want *big.Int
			}{{a.Plus(b), new(big.Int).Add(x, y)}, {a.Minus(b), new(big.Int).Sub(x, y)}, {a.Times(b), new(big.Int).Mul(x, y)}} {
				text := api.Int{Neg: pair.want.Sign() < 0, Mag: api.Nat(pair.want.Bytes())}
				if pair.got.Int() != text || pair.got.Sign() != pair.want.Sign() {
					t.Errorf("case %d of %v and %v: %#v, of sign %d", i, x, y, pair.got.Int(), pair.got.Sign())
				}
			}
		}
	}
}

func TestCheck(t *testing.T) {
	good := api.Point{X: rat.Of(1), Y: rat.Of(-2)}
	nat := func(n int) api.Nat { return api.Nat(strings.Repeat("\x01", n)) }
	whole100, whole101 := api.Rat{Num: api.Int{Mag: nat(100)}, Den: "\x01"}, api.Rat{Num: api.Int{Mag: nat(101)}, Den: "\x01"}
	part100, part101 := api.Rat{Num: whole.Of(1), Den: nat(100)}, api.Rat{Num: whole.Of(1), Den: nat(101)}
	wrong := api.Rat{Num: whole.Of(2), Den: "\x04"}
	for i, c := range []struct {
		x, y api.Rat
		e    api.Errno
	}{
		{rat.Of(0), rat.Of(0), api.OK}, {whole100, part100, api.OK}, {part100, whole100, api.OK},
		{whole101, good.Y, api.ErrLimit}, {good.X, whole101, api.ErrLimit},
		{part101, good.Y, api.ErrLimit}, {good.X, part101, api.ErrLimit},
		{wrong, good.Y, api.ErrArg}, {good.X, wrong, api.ErrArg}, {good.X, api.Rat{}, api.ErrArg}, {api.Rat{}, good.Y, api.ErrArg},
		{wrong, whole101, api.ErrLimit}, {wrong, part101, api.ErrLimit}, {part101, wrong, api.ErrLimit},
		{api.Rat{Num: api.Int{Mag: "\x00" + nat(100)}, Den: "\x01"}, good.Y, api.ErrLimit},
	} {
		p := api.Point{X: c.x, Y: c.y}
		if e := span.Check(p); e != c.e {
			t.Errorf("P5.1: case %d: error %d", i, e)
		}
		if e := span.Check(good, p, api.Point{}); c.e != api.OK && e != c.e {
			t.Errorf("P5.1: case %d, the second one: error %d", i, e)
		}
		if e := span.Check(api.Point{}, p); e != api.ErrArg {
			t.Errorf("P5.1: case %d, behind another: error %d", i, e)
		}
	}
	if e := span.Check(); e != api.OK {
		t.Errorf("no point: error %d", e)
	}
}

// TestCheckNumbers holds that numbers are gone through one by one: a length counts ahead of its own number's faults alone.
func TestCheckNumbers(t *testing.T) {
	nat := func(n int) api.Nat { return api.Nat(strings.Repeat("\x01", n)) }
	good, wrong := rat.Of(-3), api.Rat{Num: whole.Of(2), Den: "\x04"}
	for i, c := range []struct {
		a api.Rat
		e api.Errno
	}{
		{rat.Of(0), api.OK}, {api.Rat{Num: api.Int{Mag: nat(100)}, Den: "\x01"}, api.OK}, {api.Rat{Num: whole.Of(1), Den: nat(100)}, api.OK},
		{api.Rat{Num: api.Int{Mag: nat(101)}, Den: "\x01"}, api.ErrLimit}, {api.Rat{Num: whole.Of(1), Den: nat(101)}, api.ErrLimit},
		{api.Rat{Num: api.Int{Mag: "\x00" + nat(100)}, Den: "\x01"}, api.ErrLimit}, {api.Rat{Num: api.Int{Mag: nat(101)}, Den: nat(101)}, api.ErrLimit},
		{wrong, api.ErrArg}, {api.Rat{}, api.ErrArg}, {api.Rat{Num: api.Int{Neg: true}, Den: "\x01"}, api.ErrArg},
	} {
		first, second := span.CheckNumbers(c.a, good), span.CheckNumbers(good, c.a)
		if first != c.e || second != c.e {
			t.Errorf("P7.1: case %d: errors %d, %d", i, first, second)
		}
		if e := span.CheckNumbers(good, c.a, wrong, api.Rat{Num: api.Int{Mag: nat(101)}, Den: "\x01"}); c.e != api.OK && e != c.e || c.e == api.OK && e != api.ErrArg {
			t.Errorf("P7.1: case %d, ahead of others: error %d", i, e)
		}
		if e := span.CheckNumbers(wrong, c.a); e != api.ErrArg {
			t.Errorf("P7.1: case %d, behind another: error %d", i, e)
		}
	}
	if e := span.CheckNumbers(); e != api.OK {
		t.Errorf("no number: error %d", e)
	}
}

// TestShared holds that numbers are made whole by the least unit that does it.
func TestShared(t *testing.T) {
	r := rand.New(rand.NewPCG(23, 24))
	for i := range 300 {
		n, common := 1+i%100, big.NewInt(int64(1+r.IntN(60)))
		given, numbers, least := make([]*big.Rat, i%7), make([]api.Rat, i%7), big.NewInt(1)
		for k := range given {
			given[k] = fraction(r, n, common)
			numbers[k] = ratOf(given[k])
			under := given[k].Denom()
			least.Mul(least, new(big.Int).Quo(under, new(big.Int).GCD(nil, nil, least, under)))
		}
		l, unit := span.Shared(numbers...)
		if len(l) != len(given) || intOf(unit).Cmp(least) != 0 {
			t.Fatalf("case %d: %d numbers, the unit %v, not %v", i, len(l), intOf(unit), least)
		}
		for k, a := range l {
			if quotient(a, unit).Cmp(given[k]) != 0 || a.Over(unit) != numbers[k] {
				t.Errorf("case %d: %v is %v over %v", i, given[k], intOf(a), intOf(unit))
			}
		}
	}
}

// TestOver divides by many numbers, with much in common, of either sign, which is left out.
func TestOver(t *testing.T) {
	r := rand.New(rand.NewPCG(25, 26))
	for i := range 300 {
		x := big.NewInt(r.Int64N(2000) - 1000)
		dens, product := []span.Number(nil), big.NewInt(1)
		for range i % 5 {
			d := 1 + r.IntN(50)
			product.Mul(product, big.NewInt(int64(d)))
			dens = append(dens, span.NumberOf(whole.Of(d*(1-2*r.IntN(2)))))
		}
		a := span.NumberOf(api.Int{Neg: x.Sign() < 0, Mag: api.Nat(x.Bytes())})
		if got := a.Over(dens...); got != ratOf(new(big.Rat).SetFrac(x, product)) {
			t.Errorf("%v over %v: %#v", x, product, got)
		}
	}
}
