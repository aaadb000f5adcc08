package short_test

import (
	"math/big"
	"math/rand/v2"
	"slices"
	"strings"
	"testing"

	"gusset/api"
	"gusset/rat"
	"gusset/short"
	"gusset/whole"
)

// ratOf is a number of the library as a Rat.
func ratOf(x *big.Rat) api.Rat {
	num := api.Int{Neg: x.Sign() < 0, Mag: api.Nat(x.Num().Bytes())}
	return api.Rat{Num: num, Den: api.Nat(x.Denom().Bytes())}
}

// number is a whole number of n bytes, part is 1 divided by such a one.
func number(n int) api.Rat {
	return api.Rat{Num: api.Int{Mag: api.Nat(strings.Repeat("\xff", n))}, Den: "\x01"}
}

func part(n int) api.Rat {
	return api.Rat{Num: whole.Of(1), Den: api.Nat(strings.Repeat("\xff", n))}
}

// product is what the library makes of two whole numbers above 0.
func product(a, b api.Rat) api.Rat {
	x := new(big.Int).Mul(new(big.Int).SetBytes([]byte(a.Num.Mag)), new(big.Int).SetBytes([]byte(b.Num.Mag)))
	return ratOf(new(big.Rat).SetInt(x))
}

// asked is what Answer tells of a number that is reckoned.
func asked(work func() api.Rat) (api.Rat, api.Errno) { return short.Answer(work) }

func TestLengths(t *testing.T) {
	for i, c := range []struct {
		work func() api.Rat
		want api.Rat
		e    api.Errno
	}{
		{func() api.Rat { return short.Fit(number(8000)) }, number(8000), api.OK},
		{func() api.Rat { return short.Fit(part(8000)) }, part(8000), api.OK},
		{func() api.Rat { return short.Fit(number(8001)) }, api.Rat{}, api.ErrLimit},
		{func() api.Rat { return short.Fit(part(8001)) }, api.Rat{}, api.ErrLimit},
		{func() api.Rat { return short.Add(number(8000), rat.Of(0)) }, number(8000), api.OK},
		{func() api.Rat { return short.Add(number(8000), rat.Of(1)) }, api.Rat{}, api.ErrLimit},
		{func() api.Rat { return short.Sub(number(8000), number(8000)) }, rat.Of(0), api.OK},
		{func() api.Rat { return short.Sub(rat.Of(-1), number(8000)) }, api.Rat{}, api.ErrLimit},
		{func() api.Rat { return short.Mul(number(8000), part(8000)) }, rat.Of(1), api.OK},
		{func() api.Rat { return short.Mul(part(4000), part(4001)) }, api.Rat{}, api.ErrLimit},
		{func() api.Rat { return short.Div(number(8000), number(8000)) }, rat.Of(1), api.OK},
		{func() api.Rat { return short.Div(rat.Of(-6), rat.Of(4)) }, ratOf(big.NewRat(-3, 2)), api.OK},
		{func() api.Rat { return short.Div(number(4001), part(4000)) }, api.Rat{}, api.ErrLimit},
		{func() api.Rat { return short.Div(part(8001), part(8001)) }, api.Rat{}, api.ErrLimit},
		{func() api.Rat { return api.Rat{Num: short.Whole(number(8000).Num), Den: "\x01"} }, number(8000), api.OK},
		{func() api.Rat { return api.Rat{Num: short.Whole(number(8001).Num), Den: "\x01"} }, api.Rat{}, api.ErrLimit},
		{func() api.Rat { return short.Add(number(8001), rat.Of(0)) }, api.Rat{}, api.ErrLimit},
		{func() api.Rat { return short.Told(rat.Sub(number(8000), rat.Of(0))) }, number(8000), api.OK},
		{func() api.Rat { return short.Told(rat.Div(number(8000), part(8000))) }, product(number(8000), number(8000)), api.OK},
		{func() api.Rat { return short.Told(rat.Sub(number(8001), rat.Of(0))) }, api.Rat{}, api.ErrLimit},
		{func() api.Rat { return short.Sub(rat.Of(0), part(8001)) }, api.Rat{}, api.ErrLimit},
		{func() api.Rat { return short.Mul(number(8001), part(8001)) }, api.Rat{}, api.ErrLimit},
	} {
		if a, e := asked(c.work); a != c.want || e != c.e {
			t.Errorf("R7: case %d: %d bytes, error %d", i, len(a.Num.Mag), e)
		}
	}
}

// TestAnswer holds that what is made is told whole, and that nothing of it is told where it was given up.
func TestAnswer(t *testing.T) {
	l, e := short.Answer(func() []int { return []int{1, 2} })
	if !slices.Equal(l, []int{1, 2}) || e != api.OK {
		t.Errorf("%v, error %d", l, e)
	}
	l, e = short.Answer(func() []int {
		short.Fit(number(8001))
		return []int{1, 2}
	})
	if l != nil || e != api.ErrLimit {
		t.Errorf("R3: given up: %v, error %d", l, e)
	}
}

// TestOtherPanics holds that a fault of another kind is not told as a length.
func TestOtherPanics(t *testing.T) {
	defer func() {
		if thrown := recover(); thrown != "another" {
			t.Errorf("%v", thrown)
		}
	}()
	_, e := short.Answer(func() int { panic("another") })
	t.Errorf("error %d", e)
}

// TestSums holds sums of many lengths, and of things that count otherwise than they are.
func TestSums(t *testing.T) {
	r := rand.New(rand.NewPCG(171, 172))
	for n := range 40 {
		l, want := []int(nil), new(big.Rat)
		for range n {
			x := r.IntN(2000) - 1000
			l = append(l, x)
			want.Add(want, big.NewRat(int64(x), 7*int64(1+x*x%11)))
		}
		count := func(x int) api.Rat { return ratOf(big.NewRat(int64(x), 7*int64(1+x*x%11))) }
		if a, e := asked(func() api.Rat { return short.Sum(l, count) }); a != ratOf(want) || e != api.OK {
			t.Errorf("%d numbers: %v, not %v, error %d", n, a, want, e)
		}
	}
	self := func(a api.Rat) api.Rat { return a }
	for i, c := range []struct {
		l    []api.Rat
		want api.Rat
		e    api.Errno
	}{
		{nil, rat.Of(0), api.OK}, {[]api.Rat{number(8000)}, number(8000), api.OK}, {[]api.Rat{number(8001)}, api.Rat{}, api.ErrLimit},
		{[]api.Rat{number(8000), rat.Of(5), rat.Of(-5), rat.Of(0)}, api.Rat{}, api.ErrLimit}, {[]api.Rat{part(8000), number(1)}, api.Rat{}, api.ErrLimit},
	} {
		if a, e := asked(func() api.Rat { return short.Sum(c.l, self) }); a != c.want || e != c.e {
			t.Errorf("R7: case %d: %d bytes, error %d", i, len(a.Num.Mag), e)
		}
	}
}
