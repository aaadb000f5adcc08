package rat_test

import (
	"math"
	"math/big"
	"math/rand/v2"
	"strings"
	"testing"

	"gusset/api"
	"gusset/rat"
	"gusset/whole"
)

// ratOf is a number of the library as a Rat, value the way back: what the answers are held against.
func ratOf(x *big.Rat) api.Rat {
	return api.Rat{Num: intOf(x.Num()), Den: api.Nat(x.Denom().Bytes())}
}

func intOf(x *big.Int) api.Int {
	return api.Int{Neg: x.Sign() < 0, Mag: api.Nat(x.Bytes())}
}

func value(a api.Rat) *big.Rat {
	n, d := new(big.Int).SetBytes([]byte(a.Num.Mag)), new(big.Int).SetBytes([]byte(a.Den))
	if a.Num.Neg {
		n.Neg(n)
	}
	return new(big.Rat).SetFrac(n, d)
}

// read is the number of a text.
func read(t *testing.T, s string) api.Rat {
	t.Helper()
	a, e := rat.Parse(s)
	if e != api.OK {
		t.Fatalf("P3.4: Parse of %q: error %d", s, e)
	}
	return a
}

func random() *rand.Rand { return rand.New(rand.NewPCG(5, 6)) }

// natural is a number of n bytes at most, not 0.
func natural(r *rand.Rand, n int) *big.Int {
	text := make([]byte, n)
	for i := range text {
		text[i] = byte(r.Uint32())
	}
	x := new(big.Int).SetBytes(text)
	if x.Sign() == 0 {
		return big.NewInt(1)
	}
	return x
}

// fraction is a number of n bytes at most above the stroke and below it, of either sign. Factors in common, within it and with others, are frequent.
func fraction(r *rand.Rand, n int) *big.Rat {
	over, under := natural(r, n), natural(r, n)
	if r.IntN(3) == 0 {
		common := new(big.Int).Exp(big.NewInt(6), big.NewInt(int64(r.IntN(n+1))), nil)
		over, under = natural(r, max(n/2, 1)), new(big.Int).Mul(common, natural(r, max(n/2, 1)))
	}
	if r.IntN(10) == 0 {
		under = big.NewInt(1)
	}
	if r.IntN(20) == 0 {
		over = big.NewInt(0)
	}
	if r.IntN(2) == 0 {
		over.Neg(over)
	}
	return new(big.Rat).SetFrac(over, under)
}

// pairs calls f with pairs of numbers of many lengths.
func pairs(f func(x *big.Rat, y *big.Rat)) {
	r := random()
	small := []*big.Rat{}
	for n := int64(-4); n <= 4; n++ {
		for d := int64(1); d <= 6; d++ {
			small = append(small, big.NewRat(n, d))
		}
	}
	for _, x := range small {
		for _, y := range small {
			f(x, y)
		}
	}
	for range 600 {
		f(fraction(r, 1+r.IntN(30)), fraction(r, 1+r.IntN(30)))
	}
	for range 20 {
		x := fraction(r, 1+r.IntN(500))
		f(x, fraction(r, 1+r.IntN(500)))
		f(x, x)
		f(x, new(big.Rat).Neg(x))
		if x.Sign() != 0 {
			f(x, new(big.Rat).Inv(x))
		}
	}
	f(fraction(r, 8000), fraction(r, 8000))
	f(fraction(r, 8000), fraction(r, 3))
	f(greatest(), greatest())
	f(greatest(), new(big.Rat).Neg(new(big.Rat).Inv(greatest())))
}

// greatest is a number with 8000 bytes full of ones above the stroke, and 8000 below it.
func greatest() *big.Rat {
	x := new(big.Int).Lsh(big.NewInt(1), 8*8000)
	x.Sub(x, big.NewInt(1))
	return new(big.Rat).SetFrac(x, new(big.Int).Sub(x, big.NewInt(1)))
}

// bytes is a Nat of n bytes 1.
func bytes(n int) api.Nat { return api.Nat(strings.Repeat("\x01", n)) }

func TestCheck(t *testing.T) {
	for i, c := range []struct {
		a api.Rat
		e api.Errno
	}{
		{api.Rat{Den: "\x01"}, api.OK},
		{api.Rat{Num: whole.Of(-3), Den: "\x02"}, api.OK},
		{api.Rat{Num: whole.Of(1), Den: "\x01\x00"}, api.OK},
		{api.Rat{Num: whole.Of(1), Den: bytes(8000)}, api.OK},
		{api.Rat{Num: api.Int{Neg: true, Mag: bytes(8000)}, Den: "\x01"}, api.OK},
		{ratOf(greatest()), api.OK},
		{api.Rat{}, api.ErrArg},
		{api.Rat{Num: whole.Of(1)}, api.ErrArg},
		{api.Rat{Den: "\x02"}, api.ErrArg},
		{api.Rat{Den: bytes(8000)}, api.ErrArg},
		{api.Rat{Num: api.Int{Neg: true}, Den: "\x01"}, api.ErrArg},
		{api.Rat{Num: api.Int{Mag: "\x00\x01"}, Den: "\x01"}, api.ErrArg},
		{api.Rat{Num: api.Int{Mag: "\x00"}, Den: "\x01"}, api.ErrArg},
		{api.Rat{Num: whole.Of(1), Den: "\x00"}, api.ErrArg},
		{api.Rat{Num: whole.Of(1), Den: "\x00\x01"}, api.ErrArg},
		{api.Rat{Num: whole.Of(3), Den: "\x00\x02"}, api.ErrArg},
		{api.Rat{Num: whole.Of(2), Den: "\x04"}, api.ErrArg},
		{api.Rat{Num: whole.Of(-9), Den: "\x06"}, api.ErrArg},
		{api.Rat{Num: whole.Of(5), Den: "\x05"}, api.ErrArg},
		{api.Rat{Num: api.Int{Mag: bytes(8000)}, Den: bytes(8000)}, api.ErrArg},
		{api.Rat{Num: api.Int{Mag: bytes(8001)}, Den: "\x01"}, api.ErrLimit},
		{api.Rat{Num: whole.Of(1), Den: bytes(8001)}, api.ErrLimit},
		{api.Rat{Num: api.Int{Mag: bytes(8001)}}, api.ErrLimit},
		{api.Rat{Num: api.Int{Neg: true}, Den: bytes(8001)}, api.ErrLimit},
		{api.Rat{Num: api.Int{Mag: api.Nat(make([]byte, 8001))}, Den: "\x01"}, api.ErrLimit},
		{api.Rat{Num: whole.Of(1), Den: api.Nat(make([]byte, 8001))}, api.ErrLimit},
		{api.Rat{Num: api.Int{Mag: bytes(40000)}, Den: bytes(40000)}, api.ErrLimit},
	} {
		if e := rat.Check(c.a); e != c.e {
			t.Errorf("P3.1: case %d: error %d", i, e)
		}
	}
}

// TestWrongNumbers asks all calls for numbers that may not be: Check's error of the first, then of the second, is ahead of all else.
func TestWrongNumbers(t *testing.T) {
	good, zero := rat.Of(5), rat.Of(0)
	wrong, notLowest := api.Rat{}, api.Rat{Num: whole.Of(2), Den: "\x04"}
	long := api.Rat{Num: whole.Of(1), Den: bytes(8001)}
	for i, c := range []struct {
		a, b api.Rat
		e    api.Errno
	}{
		{wrong, good, api.ErrArg}, {notLowest, zero, api.ErrArg}, {long, zero, api.ErrLimit},
		{good, wrong, api.ErrArg}, {zero, notLowest, api.ErrArg}, {good, long, api.ErrLimit},
		{wrong, long, api.ErrArg}, {long, notLowest, api.ErrLimit},
	} {
		if x, e := rat.Cmp(c.a, c.b); x != 0 || e != c.e {
			t.Errorf("P3.1: Cmp, case %d: %d, error %d", i, x, e)
		}
		for k, call := range []func(api.Rat, api.Rat) (api.Rat, api.Errno){rat.Add, rat.Sub, rat.Mul, rat.Div} {
			if x, e := call(c.a, c.b); x != (api.Rat{}) || e != c.e {
				t.Errorf("P3.1: call %d, case %d: %v, error %d", k, i, x, e)
			}
		}
	}
	for i, c := range []struct {
		a api.Rat
		e api.Errno
	}{{wrong, api.ErrArg}, {notLowest, api.ErrArg}, {long, api.ErrLimit}} {
		if x, e := rat.Sign(c.a); x != 0 || e != c.e {
			t.Errorf("P3.1: Sign, case %d: %d, error %d", i, x, e)
		}
		if s, e := rat.Print(c.a); s != "" || e != c.e {
			t.Errorf("P3.1: Print, case %d: %q, error %d", i, s, e)
		}
		for _, places := range []int{0, 3, -1, 101} {
			if s, e := rat.Decimal(c.a, places); s != "" || e != c.e {
				t.Errorf("P3.1: Decimal, case %d, %d places: %q, error %d", i, places, s, e)
			}
		}
	}
}

func TestMake(t *testing.T) {
	pairs(func(x *big.Rat, y *big.Rat) {
		for _, c := range [][2]*big.Int{{x.Num(), y.Num()}, {x.Num(), x.Denom()}, {y.Denom(), x.Num()}} {
			if c[1].Sign() == 0 {
				continue
			}
			want := ratOf(new(big.Rat).SetFrac(c[0], c[1]))
			if a, e := rat.Make(intOf(c[0]), intOf(c[1])); a != want || e != api.OK {
				t.Fatalf("P3.2: Make of %d, %d: %v, error %d", c[0], c[1], a, e)
			}
		}
	})
	if a, e := rat.Make(whole.Of(6), whole.Of(-4)); a != ratOf(big.NewRat(-3, 2)) || e != api.OK {
		t.Errorf("P3.2: Make of 6, -4: %v, error %d", a, e)
	}
	twelve := api.Int{Mag: api.Nat("\x0c" + strings.Repeat("\x00", 7999))}
	if a, e := rat.Make(twelve, api.Int{Neg: true, Mag: twelve.Mag[:7999]}); a != rat.Of(-256) || e != api.OK {
		t.Errorf("P3.2: 8000 bytes: %v, error %d", a, e)
	}
	wrong, minusZero, long := api.Int{Mag: "\x00\x05"}, api.Int{Neg: true}, api.Int{Mag: bytes(8001)}
	for i, c := range []struct {
		n, d api.Int
		e    api.Errno
	}{
		{whole.Of(1), whole.Of(0), api.ErrZero}, {whole.Of(0), whole.Of(0), api.ErrZero},
		{api.Int{Mag: bytes(8000)}, whole.Of(0), api.ErrZero},
		{wrong, whole.Of(0), api.ErrArg}, {minusZero, whole.Of(1), api.ErrArg},
		{whole.Of(1), wrong, api.ErrArg}, {whole.Of(1), minusZero, api.ErrArg},
		{whole.Of(1), api.Int{Mag: "\x00"}, api.ErrArg},
		{long, whole.Of(0), api.ErrLimit}, {whole.Of(0), long, api.ErrLimit},
		{wrong, long, api.ErrLimit}, {long, wrong, api.ErrLimit}, {long, minusZero, api.ErrLimit},
		{api.Int{Mag: api.Nat(make([]byte, 8001))}, whole.Of(1), api.ErrLimit},
	} {
		if a, e := rat.Make(c.n, c.d); a != (api.Rat{}) || e != c.e {
			t.Errorf("P3.2: case %d: %v, error %d", i, a, e)
		}
	}
}

func TestOf(t *testing.T) {
	for _, n := range []int{0, 1, -1, 2, 255, -256, math.MaxInt, math.MinInt} {
		if a := rat.Of(n); a != ratOf(new(big.Rat).SetInt64(int64(n))) {
			t.Errorf("P3.2: Of %d: %v", n, a)
		}
	}
}

func TestReckoning(t *testing.T) {
	pairs(func(x *big.Rat, y *big.Rat) {
		a, b := ratOf(x), ratOf(y)
		for _, c := range []struct {
			name string
			call func(api.Rat, api.Rat) (api.Rat, api.Errno)
			want func(*big.Rat, *big.Rat) *big.Rat
		}{
			{"Add", rat.Add, new(big.Rat).Add},
			{"Sub", rat.Sub, new(big.Rat).Sub},
			{"Mul", rat.Mul, new(big.Rat).Mul},
			{"Div", rat.Div, new(big.Rat).Quo},
		} {
			if c.name == "Div" && y.Sign() == 0 {
				if z, e := c.call(a, b); z != (api.Rat{}) || e != api.ErrZero {
					t.Fatalf("P3.3: Div of %s by 0: %v, error %d", x, z, e)
				}
				continue
			}
			if z, e := c.call(a, b); z != ratOf(c.want(x, y)) || e != api.OK {
				t.Fatalf("P3.3: %s of %s, %s: error %d", c.name, x, y, e)
			}
		}
		if z, e := rat.Cmp(a, b); z != x.Cmp(y) || e != api.OK {
			t.Fatalf("P3.3: Cmp of %s, %s: %d, error %d", x, y, z, e)
		}
		if z, e := rat.Sign(a); z != x.Sign() || e != api.OK {
			t.Fatalf("P3.3: Sign of %s: %d, error %d", x, z, e)
		}
	})
}

// TestLongAnswers holds what two of the longest numbers make: it is longer than what may be handed in.
func TestLongAnswers(t *testing.T) {
	a, b := ratOf(greatest()), ratOf(new(big.Rat).Add(greatest(), big.NewRat(-1, 1)))
	p, e := rat.Mul(a, a)
	if e != api.OK || len(p.Num.Mag) != 16000 || rat.Check(p) != api.ErrLimit {
		t.Errorf("P3.1: %d bytes, error %d", len(p.Num.Mag), e)
	}
	if p, _ := rat.Div(a, b); value(p).Cmp(new(big.Rat).Quo(value(a), value(b))) != 0 {
		t.Error("P3.3: a long quotient")
	}
	if x, e := rat.Cmp(a, b); x != 1 || e != api.OK {
		t.Errorf("P3.3: Cmp %d, error %d", x, e)
	}
}

// TestLaws holds the field's laws.
func TestLaws(t *testing.T) {
	r := random()
	do := func(call func(api.Rat, api.Rat) (api.Rat, api.Errno), a api.Rat, b api.Rat) api.Rat {
		c, e := call(a, b)
		if e != api.OK {
			t.Fatalf("P3.6: error %d", e)
		}
		return c
	}
	for range 200 {
		a, b, c := ratOf(fraction(r, 1+r.IntN(40))), ratOf(fraction(r, 1+r.IntN(40))), ratOf(fraction(r, 1+r.IntN(40)))
		holds := []bool{
			do(rat.Add, a, b) == do(rat.Add, b, a),
			do(rat.Mul, a, b) == do(rat.Mul, b, a),
			do(rat.Add, do(rat.Add, a, b), c) == do(rat.Add, a, do(rat.Add, b, c)),
			do(rat.Mul, do(rat.Mul, a, b), c) == do(rat.Mul, a, do(rat.Mul, b, c)),
			do(rat.Mul, a, do(rat.Add, b, c)) == do(rat.Add, do(rat.Mul, a, b), do(rat.Mul, a, c)),
			do(rat.Add, a, rat.Of(0)) == a,
			do(rat.Mul, a, rat.Of(1)) == a,
			do(rat.Sub, a, a) == rat.Of(0),
			do(rat.Sub, do(rat.Add, a, b), b) == a,
			b == rat.Of(0) || do(rat.Mul, do(rat.Div, a, b), b) == a,
			b == rat.Of(0) || do(rat.Div, b, b) == rat.Of(1),
		}
		for i, ok := range holds {
			if !ok {
				t.Errorf("P3.6: law %d of %s, %s, %s", i, value(a), value(b), value(c))
			}
		}
	}
}
