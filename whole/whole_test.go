package whole_test

import (
	"math"
	"math/big"
	"math/rand/v2"
	"strings"
	"testing"

	"gusset/api"
	"gusset/whole"
)

// intOf is a number of the library as an Int, value the way back: what the answers are held against.
func intOf(x *big.Int) api.Int {
	return api.Int{Neg: x.Sign() < 0, Mag: api.Nat(x.Bytes())}
}

func value(a api.Int) *big.Int {
	x := new(big.Int).SetBytes([]byte(a.Mag))
	if a.Neg {
		x.Neg(x)
	}
	return x
}

func random() *rand.Rand { return rand.New(rand.NewPCG(3, 4)) }

// bytesFrom is a number of at most n bytes, of either sign; long rows of equal bits in it are frequent.
func bytesFrom(r *rand.Rand, n int) *big.Int {
	text := make([]byte, n)
	for i := range text {
		switch r.IntN(3) {
		case 0:
			text[i] = byte(r.Uint32())
		case 1:
			text[i] = []byte{0, 0, 0, 1, 0x80, 0xff, 0xff, 0xff}[r.IntN(8)]
		default:
			text[i] = text[max(i-1, 0)]
		}
	}
	x := new(big.Int).SetBytes(text)
	if r.IntN(2) == 0 {
		x.Neg(x)
	}
	return x
}

// pairs calls f with pairs of numbers of many lengths.
func pairs(f func(x *big.Int, y *big.Int)) {
	r := random()
	small := []int64{0, 1, -1, 2, -2, 3, -7, 7, 12, 18, -255, 256, math.MaxInt64, math.MinInt64}
	for _, x := range small {
		for _, y := range small {
			f(big.NewInt(x), big.NewInt(y))
		}
	}
	for range 1500 {
		f(bytesFrom(r, r.IntN(60)), bytesFrom(r, r.IntN(40)))
	}
	for range 40 {
		x := bytesFrom(r, r.IntN(2000))
		f(x, bytesFrom(r, r.IntN(2000)))
		f(x, x)
		f(x, new(big.Int).Neg(x))
	}
	f(bytesFrom(r, 32000), bytesFrom(r, 32000))
	f(bytesFrom(r, 32000), bytesFrom(r, 9))
	f(bytesFrom(r, 100), bytesFrom(r, 32000))
}

// greatest is the greatest number that may be handed in.
func greatest() *big.Int {
	x := new(big.Int).Lsh(big.NewInt(1), 8*32000)
	return x.Sub(x, big.NewInt(1))
}

func TestCheck(t *testing.T) {
	for i, c := range []struct {
		a api.Int
		e api.Errno
	}{
		{api.Int{}, api.OK},
		{api.Int{Mag: "\x01"}, api.OK},
		{api.Int{Neg: true, Mag: "\x01\x00"}, api.OK},
		{intOf(greatest()), api.OK},
		{intOf(new(big.Int).Neg(greatest())), api.OK},
		{api.Int{Neg: true}, api.ErrArg},
		{api.Int{Mag: "\x00"}, api.ErrArg},
		{api.Int{Neg: true, Mag: "\x00\x01"}, api.ErrArg},
		{api.Int{Mag: api.Nat(make([]byte, 32000))}, api.ErrArg},
		{api.Int{Mag: api.Nat(strings.Repeat("\x01", 32001))}, api.ErrLimit},
		{api.Int{Mag: api.Nat(make([]byte, 32001))}, api.ErrLimit},
	} {
		if e := whole.Check(c.a); e != c.e {
			t.Errorf("P2.1: case %d: error %d", i, e)
		}
	}
}

// TestWrongNumbers asks all calls for numbers that may not be: Check's error of the first, then of the second, is ahead of all else.
func TestWrongNumbers(t *testing.T) {
	good, zero := whole.Of(5), whole.Of(0)
	minusZero, ahead := api.Int{Neg: true}, api.Int{Mag: "\x00\x05"}
	long := api.Int{Mag: api.Nat(strings.Repeat("\x01", 32001))}
	none := api.Int{}
	for i, c := range []struct {
		a, b api.Int
		e    api.Errno
	}{
		{minusZero, good, api.ErrArg}, {ahead, zero, api.ErrArg}, {long, zero, api.ErrLimit},
		{good, minusZero, api.ErrArg}, {good, ahead, api.ErrArg}, {good, long, api.ErrLimit},
		{ahead, long, api.ErrArg}, {long, ahead, api.ErrLimit}, {zero, minusZero, api.ErrArg},
	} {
		if x, e := whole.Cmp(c.a, c.b); x != 0 || e != c.e {
			t.Errorf("P2.1: Cmp, case %d: %d, error %d", i, x, e)
		}
		for k, call := range []func(api.Int, api.Int) (api.Int, api.Errno){whole.Add, whole.Sub, whole.Mul, whole.Gcd} {
			if x, e := call(c.a, c.b); x != none || e != c.e {
				t.Errorf("P2.1: call %d, case %d: %d, error %d", k, i, value(x), e)
			}
		}
		if q, r, e := whole.Div(c.a, c.b); q != none || r != none || e != c.e {
			t.Errorf("P2.1: Div, case %d: %d, %d, error %d", i, value(q), value(r), e)
		}
	}
	for i, c := range []struct {
		a api.Int
		e api.Errno
	}{{minusZero, api.ErrArg}, {ahead, api.ErrArg}, {long, api.ErrLimit}} {
		if s, e := whole.Print(c.a); s != "" || e != c.e {
			t.Errorf("P2.1: Print, case %d: %q, error %d", i, s, e)
		}
	}
}

func TestReckoning(t *testing.T) {
	pairs(func(x *big.Int, y *big.Int) {
		a, b := intOf(x), intOf(y)
		for _, c := range []struct {
			name string
			call func(api.Int, api.Int) (api.Int, api.Errno)
			want *big.Int
		}{
			{"Add", whole.Add, new(big.Int).Add(x, y)},
			{"Sub", whole.Sub, new(big.Int).Sub(x, y)},
			{"Mul", whole.Mul, new(big.Int).Mul(x, y)},
			{"Gcd", whole.Gcd, new(big.Int).GCD(nil, nil, new(big.Int).Abs(x), new(big.Int).Abs(y))},
		} {
			if n, e := c.call(a, b); n != intOf(c.want) || e != api.OK {
				t.Fatalf("P2.2: %s of %d, %d: %d, error %d", c.name, x, y, value(n), e)
			}
		}
		if n, e := whole.Cmp(a, b); n != x.Cmp(y) || e != api.OK {
			t.Fatalf("P2.2: Cmp of %d, %d: %d, error %d", x, y, n, e)
		}
	})
}

func TestDiv(t *testing.T) {
	pairs(func(x *big.Int, y *big.Int) {
		q, r, e := whole.Div(intOf(x), intOf(y))
		if y.Sign() == 0 {
			if q != (api.Int{}) || r != (api.Int{}) || e != api.ErrZero {
				t.Fatalf("P2.2: %d by 0: %d, %d, error %d", x, value(q), value(r), e)
			}
			return
		}
		quotient, rest := new(big.Int).DivMod(x, y, new(big.Int))
		if q != intOf(quotient) || r != intOf(rest) || e != api.OK {
			t.Fatalf("P2.2: %d by %d: %d, rest %d, error %d", x, y, value(q), value(r), e)
		}
	})
	for _, c := range [][4]int{{-7, 2, -4, 1}, {7, -2, -3, 1}, {-7, -2, 4, 1}, {7, 2, 3, 1}, {-6, 3, -2, 0}, {-1, 5, -1, 4}, {-1, -5, 1, 4}, {0, -5, 0, 0}} {
		if q, r, e := whole.Div(whole.Of(c[0]), whole.Of(c[1])); q != whole.Of(c[2]) || r != whole.Of(c[3]) || e != api.OK {
			t.Errorf("P2.2: %d by %d: %d, rest %d, error %d", c[0], c[1], value(q), value(r), e)
		}
	}
}

// TestBeyond reckons what is longer than what may be handed in.
func TestBeyond(t *testing.T) {
	most, one := greatest(), big.NewInt(1)
	power := new(big.Int).Lsh(one, 8*31999)
	for _, c := range [][2]*big.Int{{most, one}, {most, most}, {power, power}, {most, power}, {new(big.Int).Add(power, one), power}, {power, new(big.Int).Lsh(one, 8*31992)}} {
		for _, sign := range []int64{1, -1} {
			x := new(big.Int).Mul(c[0], big.NewInt(sign))
			a, b := intOf(x), intOf(c[1])
			if n, e := whole.Add(a, b); n != intOf(new(big.Int).Add(x, c[1])) || e != api.OK {
				t.Errorf("P2.2: a sum of %d bytes, error %d", len(n.Mag), e)
			}
			if n, e := whole.Sub(a, b); n != intOf(new(big.Int).Sub(x, c[1])) || e != api.OK {
				t.Errorf("P2.2: a difference of %d bytes, error %d", len(n.Mag), e)
			}
			if n, e := whole.Mul(a, b); n != intOf(new(big.Int).Mul(x, c[1])) || e != api.OK {
				t.Errorf("P2.2: a product of %d bytes, error %d", len(n.Mag), e)
			}
		}
	}
}

// holdGcd holds a Gcd against the library's, both ways round.
func holdGcd(t *testing.T, x *big.Int, y *big.Int) {
	t.Helper()
	want := intOf(new(big.Int).GCD(nil, nil, new(big.Int).Abs(x), new(big.Int).Abs(y)))
	for _, c := range [][2]*big.Int{{x, y}, {y, x}} {
		if g, e := whole.Gcd(intOf(c[0]), intOf(c[1])); g != want || e != api.OK {
			t.Fatalf("P2.2: Gcd of %x, %x: %x, error %d", c[0], c[1], value(g), e)
		}
	}
}

func TestGcd(t *testing.T) {
	for _, c := range [][3]int{{0, 0, 0}, {0, -5, 5}, {5, 0, 5}, {-12, 18, 6}, {-12, -18, 6}, {1, -1, 1}, {17, 5, 1}, {math.MinInt64, 1 << 40, 1 << 40}, {math.MaxInt64, 7, 7}} {
		if g, e := whole.Gcd(whole.Of(c[0]), whole.Of(c[1])); g != whole.Of(c[2]) || e != api.OK {
			t.Errorf("P2.2: %d, %d: %d, error %d", c[0], c[1], value(g), e)
		}
	}
	least := new(big.Int).Lsh(big.NewInt(1), 63)
	if g, e := whole.Gcd(whole.Of(math.MinInt64), whole.Of(0)); g != intOf(least) || e != api.OK {
		t.Errorf("P2.2: %d, error %d", value(g), e)
	}
}

// TestGcdOfMultiples has common divisors of all lengths.
func TestGcdOfMultiples(t *testing.T) {
	r := random()
	for range 3000 {
		common := bytesFrom(r, r.IntN(60))
		holdGcd(t, new(big.Int).Mul(common, bytesFrom(r, r.IntN(60))), new(big.Int).Mul(common, bytesFrom(r, r.IntN(60))))
	}
	for range 20 {
		common := bytesFrom(r, r.IntN(3000))
		holdGcd(t, new(big.Int).Mul(common, bytesFrom(r, r.IntN(3000))), new(big.Int).Mul(common, bytesFrom(r, r.IntN(3000))))
	}
}

// TestGcdOfQuotients builds pairs from the quotients that Euclid's steps will find: all 1 (the most steps there can be), or now and then a great one (where the leading limbs do not tell it).
func TestGcdOfQuotients(t *testing.T) {
	r := random()
	for round := range 600 {
		x, y := new(big.Int).Abs(bytesFrom(r, r.IntN(12))), new(big.Int)
		for range r.IntN(400) {
			quotient := big.NewInt(1)
			if r.IntN(30) < round%20 {
				quotient.Lsh(quotient, uint(r.IntN(1+10*(round%20)))).Add(quotient, big.NewInt(r.Int64N(3)))
			}
			x, y = new(big.Int).Add(new(big.Int).Mul(quotient, x), y), x
		}
		holdGcd(t, x, y)
		holdGcd(t, new(big.Int).Add(x, big.NewInt(1)), y)
		holdGcd(t, x, new(big.Int).Sub(y, big.NewInt(1)))
	}
}

func TestOf(t *testing.T) {
	for i, c := range []struct {
		n int
		a api.Int
	}{
		{0, api.Int{}},
		{1, api.Int{Mag: "\x01"}},
		{-1, api.Int{Neg: true, Mag: "\x01"}},
		{255, api.Int{Mag: "\xff"}},
		{-256, api.Int{Neg: true, Mag: "\x01\x00"}},
		{math.MaxInt64, api.Int{Mag: "\x7f\xff\xff\xff\xff\xff\xff\xff"}},
		{math.MinInt64, api.Int{Neg: true, Mag: "\x80\x00\x00\x00\x00\x00\x00\x00"}},
	} {
		if a := whole.Of(c.n); a != c.a {
			t.Errorf("P2.3: case %d: %d", i, value(a))
		}
	}
}

func TestParse(t *testing.T) {
	for _, s := range []string{
		"0", "7", "-7", "10", "-100", "18446744073709551615", "18446744073709551616", "-18446744073709551616",
		"9999999999999999999", "10000000000000000000", "1" + strings.Repeat("0", 59), strings.Repeat("9", 60), "-" + strings.Repeat("9", 60),
		"123456789012345678901234567890123456789012345678901234567890",
	} {
		want, _ := new(big.Int).SetString(s, 10)
		if a, e := whole.Parse(s); a != intOf(want) || e != api.OK {
			t.Errorf("P2.3: %s: %d, error %d", s, value(a), e)
		}
	}
	for _, s := range []string{
		"", "-", "--1", "-0", "00", "01", "-007", "-00", "+1", " 1", "1 ", "1-", "1x", "0x1", "1_0", "1.0", "1/2", "1e3", "\x00", "1\x00", "1\n",
		"/", ":", "٣", "１", "\xff", "-\x80",
		"1" + strings.Repeat("0", 60), strings.Repeat("9", 61), "-" + strings.Repeat("9", 61), strings.Repeat("0", 60), strings.Repeat("1", 100000),
	} {
		if a, e := whole.Parse(s); a != (api.Int{}) || e != api.ErrSyntax {
			t.Errorf("P2.3: %.70q: %d, error %d", s, value(a), e)
		}
	}
}

// holdPrint holds a text against the library's.
func holdPrint(t *testing.T, x *big.Int) {
	t.Helper()
	if s, e := whole.Print(intOf(x)); s != x.String() || e != api.OK {
		t.Fatalf("P2.3: %x: %s, error %d", x, s, e)
	}
}

func TestPrint(t *testing.T) {
	pairs(func(x *big.Int, y *big.Int) {
		holdPrint(t, x)
		holdPrint(t, y)
	})
	power, one := big.NewInt(1), big.NewInt(1)
	for range 200 {
		holdPrint(t, power)
		holdPrint(t, new(big.Int).Sub(one, power))
		holdPrint(t, new(big.Int).Add(power, one))
		power = new(big.Int).Mul(power, big.NewInt(10))
	}
	holdPrint(t, greatest())
	holdPrint(t, new(big.Int).Neg(greatest()))
	for _, n := range []int{0, 1, -1, 10, math.MaxInt64, math.MinInt64} {
		holdPrint(t, big.NewInt(int64(n)))
	}
}

func TestParseOfPrint(t *testing.T) {
	r := random()
	for range 2000 {
		a := intOf(bytesFrom(r, r.IntN(25))) // 24 bytes are at most 58 digits
		s, _ := whole.Print(a)
		if back, e := whole.Parse(s); back != a || e != api.OK {
			t.Fatalf("P2.4: %s: %d, error %d", s, value(back), e)
		}
	}
}

func TestRing(t *testing.T) {
	must := func(a api.Int, e api.Errno) api.Int {
		t.Helper()
		if e != api.OK {
			t.Fatalf("P2.4: error %d", e)
		}
		return a
	}
	r := random()
	for range 1000 {
		x, y, z := bytesFrom(r, r.IntN(80)), bytesFrom(r, r.IntN(80)), bytesFrom(r, r.IntN(80))
		a, b, c := intOf(x), intOf(y), intOf(z)
		sum, product := must(whole.Add(a, b)), must(whole.Mul(a, b))
		for i, law := range [][2]api.Int{
			{sum, must(whole.Add(b, a))},
			{product, must(whole.Mul(b, a))},
			{must(whole.Add(sum, c)), must(whole.Add(a, must(whole.Add(b, c))))},
			{must(whole.Mul(product, c)), must(whole.Mul(a, must(whole.Mul(b, c))))},
			{must(whole.Mul(sum, c)), must(whole.Add(must(whole.Mul(a, c)), must(whole.Mul(b, c))))},
			{must(whole.Sub(sum, b)), a},
			{must(whole.Sub(a, a)), whole.Of(0)},
			{must(whole.Add(a, whole.Of(0))), a},
			{must(whole.Mul(a, whole.Of(1))), a},
			{must(whole.Mul(a, whole.Of(0))), whole.Of(0)},
			{must(whole.Mul(a, whole.Of(-1))), must(whole.Sub(whole.Of(0), a))},
		} {
			if law[0] != law[1] {
				t.Fatalf("P2.4: law %d of %d, %d, %d: %d, %d", i, x, y, z, value(law[0]), value(law[1]))
			}
		}
	}
}

// TestGcdDivides takes the multiples from the steps of Euclid, by the calls themselves.
func TestGcdDivides(t *testing.T) {
	r := random()
	for range 100 {
		a, b := intOf(bytesFrom(r, 1+r.IntN(40))), intOf(bytesFrom(r, 1+r.IntN(40)))
		g, _ := whole.Gcd(a, b)
		for _, n := range []api.Int{a, b} {
			if _, rest, e := whole.Div(n, g); g != whole.Of(0) && (rest != whole.Of(0) || e != api.OK) {
				t.Fatalf("P2.4: %d does not divide %d", value(g), value(n))
			}
		}
		x, y, factorX, factorY := a, b, whole.Of(1), whole.Of(0) // x is a times factorX and a multiple of b, y is so with factorY
		for y != whole.Of(0) {
			q, rest, _ := whole.Div(x, y)
			less, _ := whole.Mul(q, factorY)
			next, _ := whole.Sub(factorX, less)
			x, y, factorX, factorY = y, rest, factorY, next
		}
		part, _ := whole.Mul(a, factorX)
		left, _ := whole.Sub(x, part)
		if b != whole.Of(0) {
			if _, rest, _ := whole.Div(left, b); rest != whole.Of(0) {
				t.Fatalf("P2.4: %d is no sum of multiples of %d, %d", value(x), value(a), value(b))
			}
		}
		if x.Mag != g.Mag || g.Neg {
			t.Fatalf("P2.4: Gcd of %d, %d: %d", value(a), value(b), value(g))
		}
	}
}

// TestSameAgain asks twice.
func TestSameAgain(t *testing.T) {
	pairs(func(x *big.Int, y *big.Int) {
		a, b := intOf(x), intOf(y)
		first, _ := whole.Gcd(a, b)
		q, rest, _ := whole.Div(a, b)
		if second, _ := whole.Gcd(a, b); second != first {
			t.Fatal("R6: Gcd answers otherwise")
		}
		if q2, rest2, _ := whole.Div(a, b); q2 != q || rest2 != rest {
			t.Fatal("R6: Div answers otherwise")
		}
		if a != intOf(x) || b != intOf(y) {
			t.Fatal("R5: what was handed in is changed")
		}
	})
}
