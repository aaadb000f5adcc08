package rat_test

import (
	"math/big"
	"strings"
	"testing"

	"gusset/api"
	"gusset/rat"
)

func TestParse(t *testing.T) {
	for _, c := range []struct {
		text string
		n, d int64
	}{
		{"0", 0, 1}, {"7", 7, 1}, {"-7", -7, 1}, {"1/2", 1, 2}, {"-1/2", -1, 2}, {"6/4", 3, 2}, {"-6/4", -3, 2},
		{"0/5", 0, 1}, {"5/1", 5, 1}, {"10/5", 2, 1}, {"100/10", 10, 1},
	} {
		if a, e := rat.Parse(c.text); a != ratOf(big.NewRat(c.n, c.d)) || e != api.OK {
			t.Errorf("P3.4: Parse of %q: %v, error %d", c.text, a, e)
		}
	}
	nines := strings.Repeat("9", 60)
	long := "-" + nines + "/1" + strings.Repeat("0", 59)
	want, _ := new(big.Rat).SetString(long)
	if a, e := rat.Parse(long); a != ratOf(want) || e != api.OK {
		t.Errorf("P3.4: Parse of %q: %v, error %d", long, a, e)
	}
	for _, s := range []string{
		"", "/", "-", "1/", "/2", "-/2", "1/-", "1//2", "1/2/3", "/1/2", "1/2/", "1/0", "0/0", "1/-2", "-1/-2", "1/-0", "-0", "-0/2",
		"01", "1/02", "00/1", "1/00", "+1", "1/+2", "--1", " 1", "1 ", "1 /2", "1/ 2", "1.5", "1e3", "0x1", "1\x00", "a", "1/a", "١", "1:2", "1\\2", "1_0",
		nines + "9", nines + "9/2", "1/" + nines + "9",
	} {
		if a, e := rat.Parse(s); a != (api.Rat{}) || e != api.ErrSyntax {
			t.Errorf("P3.4: Parse of %q: %v, error %d", s, a, e)
		}
	}
}

func TestPrint(t *testing.T) {
	for text, want := range map[string]string{"0": "0", "6/4": "3/2", "-6/4": "-3/2", "8/4": "2", "-5": "-5", "0/3": "0", "1/10": "1/10"} {
		if s, e := rat.Print(read(t, text)); s != want || e != api.OK {
			t.Errorf("P3.4: Print of %s: %q, error %d", text, s, e)
		}
	}
	r := random()
	for range 300 {
		x := fraction(r, 1+r.IntN(24))
		s, e := rat.Print(ratOf(x))
		if s != x.RatString() || e != api.OK {
			t.Fatalf("P3.4: Print of %s: %q, error %d", x, s, e)
		}
		if a, e := rat.Parse(s); a != ratOf(x) || e != api.OK {
			t.Fatalf("P3.6: Parse of %q: error %d", s, e)
		}
	}
	if s, e := rat.Print(ratOf(greatest())); s != greatest().RatString() || e != api.OK {
		t.Errorf("P3.4: Print of 8000 bytes: %d digits, error %d", len(s), e)
	}
}

// nearest is the text of the number of that many places nearest to x: both that are next to it are tried.
func nearest(x *big.Rat, places int) string {
	power := new(big.Rat).SetInt(new(big.Int).Exp(big.NewInt(10), big.NewInt(int64(places)), nil))
	scaled := new(big.Rat).Mul(x, power)
	down := new(big.Int).Div(scaled.Num(), scaled.Denom())
	up := new(big.Int).Add(down, big.NewInt(1))
	far := func(n *big.Int) *big.Rat {
		d := new(big.Rat).Sub(scaled, new(big.Rat).SetInt(n))
		return d.Abs(d)
	}
	taken := down
	if order := far(up).Cmp(far(down)); order < 0 || order == 0 && up.Bit(0) == 0 {
		taken = up
	}
	return new(big.Rat).Quo(new(big.Rat).SetInt(taken), power).FloatString(places)
}

func TestDecimal(t *testing.T) {
	for _, c := range []struct {
		a      string
		places int
		want   string
	}{
		{"-3/2", 0, "-2"}, {"5/2", 0, "2"}, {"7/2", 0, "4"}, {"1/3", 3, "0.333"}, {"2/3", 3, "0.667"}, {"-1/1000", 2, "0.00"},
		{"1/2", 0, "0"}, {"-1/2", 0, "0"}, {"3/2", 0, "2"}, {"-5/2", 0, "-2"}, {"-51/100", 0, "-1"}, {"-49/100", 0, "0"},
		{"0", 0, "0"}, {"0", 1, "0.0"}, {"-7", 0, "-7"}, {"10", 2, "10.00"}, {"-1/200", 2, "0.00"}, {"-3/200", 2, "-0.02"},
		{"1/20", 1, "0.0"}, {"3/20", 1, "0.2"}, {"-1/10", 1, "-0.1"}, {"95/100", 1, "1.0"}, {"85/100", 1, "0.8"}, {"99/10", 0, "10"},
		{"-199/20", 1, "-10.0"}, {"1/8", 2, "0.12"}, {"3/8", 2, "0.38"}, {"1", 100, "1." + strings.Repeat("0", 100)},
		{"-1/3", 100, "-0." + strings.Repeat("3", 100)},
	} {
		if s, e := rat.Decimal(read(t, c.a), c.places); s != c.want || e != api.OK {
			t.Errorf("P3.5: Decimal of %s, %d: %q, error %d", c.a, c.places, s, e)
		}
	}
	for _, places := range []int{-1, -100, 101, 1 << 40, -1 << 63} {
		if s, e := rat.Decimal(rat.Of(1), places); s != "" || e != api.ErrArg {
			t.Errorf("P3.5: %d places: %q, error %d", places, s, e)
		}
	}
}

func TestDecimalIsNearest(t *testing.T) {
	r := random()
	for range 2000 {
		x, places := fraction(r, 1+r.IntN(12)), r.IntN(30)
		if r.IntN(2) == 0 { // two as near
			x.Mul(x, new(big.Rat).SetInt(x.Denom()))
			x.Quo(x, new(big.Rat).SetInt(new(big.Int).Exp(big.NewInt(10), big.NewInt(int64(places)), nil)))
			x.Quo(x, big.NewRat(2, 1))
		}
		if s, e := rat.Decimal(ratOf(x), places); s != nearest(x, places) || e != api.OK {
			t.Fatalf("P3.5: Decimal of %s, %d: %q, error %d", x, places, s, e)
		}
	}
	for places := range 101 {
		x := fraction(r, 60)
		if s, e := rat.Decimal(ratOf(x), places); s != nearest(x, places) || e != api.OK {
			t.Errorf("P3.5: Decimal of %s, %d: %q, error %d", x, places, s, e)
		}
	}
	for _, x := range []*big.Rat{greatest(), new(big.Rat).SetInt(greatest().Num()), new(big.Rat).SetFrac(big.NewInt(-1), greatest().Num())} {
		for _, places := range []int{0, 100} {
			if s, e := rat.Decimal(ratOf(x), places); s != nearest(x, places) || e != api.OK {
				t.Errorf("P3.5: Decimal of 8000 bytes, %d: %q, error %d", places, s, e)
			}
		}
	}
}
