package lowest_test

import (
	"math/big"
	"math/rand/v2"
	"slices"
	"strings"
	"testing"

	"gusset/api"
	"gusset/lowest"
	"gusset/rat"
	"gusset/short"
	"gusset/whole"
)

// ratOf is a number of the library as a Rat, bigOf the other way: what the answers are held against.
func ratOf(x *big.Rat) api.Rat {
	num := api.Int{Neg: x.Sign() < 0, Mag: api.Nat(x.Num().Bytes())}
	return api.Rat{Num: num, Den: api.Nat(x.Denom().Bytes())}
}

func bigOf(a api.Rat) *big.Rat {
	return new(big.Rat).SetFrac(intOf(a.Num), intOf(api.Int{Mag: a.Den}))
}

func intOf(a api.Int) *big.Int {
	x := new(big.Int).SetBytes([]byte(a.Mag))
	if a.Neg {
		x.Neg(x)
	}
	return x
}

// fraction is a number of n bytes at most above the stroke and below it, of either sign; 0 is frequent.
func fraction(r *rand.Rand, n int) *big.Rat {
	parts := [2]*big.Int{}
	for i := range parts {
		bytes := make([]byte, 1+r.IntN(n))
		for k := range bytes {
			bytes[k] = byte(r.Uint32())
		}
		parts[i] = new(big.Int).SetBytes(bytes)
	}
	switch r.IntN(5) {
	case 0:
		return new(big.Rat)
	case 1:
		parts[0].Neg(parts[0])
	case 2:
		parts[1].SetInt64(1)
	}
	if parts[1].Sign() == 0 {
		parts[1].SetInt64(7)
	}
	return new(big.Rat).SetFrac(parts[0], parts[1])
}

// row is count such numbers, of both kinds.
func row(r *rand.Rand, count, n int) ([]*big.Rat, []api.Rat) {
	bigs, rats := []*big.Rat(nil), []api.Rat(nil)
	for range count {
		x := fraction(r, n)
		bigs, rats = append(bigs, x), append(rats, ratOf(x))
	}
	return bigs, rats
}

func isLowest(x lowest.Row) bool {
	common := new(big.Int)
	for _, n := range x.Nums {
		common.GCD(nil, nil, common, new(big.Int).Abs(intOf(n)))
	}
	none := common.Sign() == 0
	return bigOf(x.Factor).Sign() > 0 && rat.Check(x.Factor) == api.OK && (none || common.Cmp(big.NewInt(1)) == 0)
}

// same tells whether a row is in its lowest terms, and has just these numbers.
func same(x lowest.Row, want []*big.Rat) bool {
	equal := func(a api.Rat, b *big.Rat) bool { return a == ratOf(b) }
	return isLowest(x) && slices.EqualFunc(x.Numbers(), want, equal)
}

func times(x *big.Rat, y *big.Rat) *big.Rat { return new(big.Rat).Mul(x, y) }
func plus(x *big.Rat, y *big.Rat) *big.Rat  { return new(big.Rat).Add(x, y) }

// TestRows holds what is made of rows of many lengths.
func TestRows(t *testing.T) {
	r := rand.New(rand.NewPCG(191, 192))
	for i := range 400 {
		count, n := i%9, 1+i/8
		wantX, l := row(r, count, n)
		wantY, o := row(r, count, n)
		x, y, a := lowest.Of(l), lowest.Of(o), fraction(r, n)
		sum, dot, scaled := []*big.Rat(nil), new(big.Rat), []*big.Rat(nil)
		factor := new(big.Rat).Abs(plus(times(a, a), big.NewRat(1, 3)))
		for k := range wantX {
			sum = append(sum, plus(wantX[k], times(a, wantY[k])))
			dot = plus(dot, times(wantX[k], wantY[k]))
			scaled = append(scaled, times(factor, wantX[k]))
		}
		if !same(x, wantX) || !same(y, wantY) {
			t.Fatalf("Of: case %d: %v, %v", i, x, y)
		}
		if !same(x.Plus(ratOf(a), y), sum) {
			t.Fatalf("Plus: case %d: %v", i, x.Plus(ratOf(a), y))
		}
		if x.Dot(y) != ratOf(dot) {
			t.Fatalf("Dot: case %d: %v", i, x.Dot(y))
		}
		if !same(x.Times(ratOf(factor)), scaled) {
			t.Fatalf("Times: case %d: %v", i, x.Times(ratOf(factor)))
		}
		if !same(x, wantX) || !same(y, wantY) {
			t.Fatalf("case %d: a row was changed", i)
		}
	}
}

// TestMake holds what divides all numbers is put to the factors.
func TestMake(t *testing.T) {
	half := ratOf(big.NewRat(1, 2))
	for i, c := range []struct {
		nums    []int
		factors []api.Rat
		factor  *big.Rat
		want    []int
	}{
		{nil, nil, big.NewRat(1, 1), nil}, {[]int{0, 0}, []api.Rat{half}, big.NewRat(1, 1), []int{0, 0}},
		{[]int{6, -9, 0}, nil, big.NewRat(3, 1), []int{2, -3, 0}}, {[]int{-4}, []api.Rat{half, half}, big.NewRat(1, 1), []int{-1}},
		{[]int{6, 10, 15}, []api.Rat{half}, big.NewRat(1, 2), []int{6, 10, 15}}, {[]int{0, 10, 15}, []api.Rat{half, rat.Of(4)}, big.NewRat(10, 1), []int{0, 2, 3}},
	} {
		given, want := []api.Int(nil), []api.Int(nil)
		for k, n := range c.nums {
			given, want = append(given, whole.Of(n)), append(want, whole.Of(c.want[k]))
		}
		if x := lowest.Make(given, c.factors...); x.Factor != ratOf(c.factor) || !slices.Equal(x.Nums, want) {
			t.Errorf("case %d: %v", i, x)
		}
	}
}

// whole8 is a whole number of n bytes, part8 is 1 divided by another one; the two have nothing in common.
func whole8(n int) api.Rat {
	return api.Rat{Num: api.Int{Mag: api.Nat("\x01" + strings.Repeat("\x00", n-1))}, Den: "\x01"}
}

func part8(n int) api.Rat {
	return api.Rat{Num: whole.Of(1), Den: api.Nat(strings.Repeat("\xff", n))}
}

// TestTooLong holds where one gives up, and that long numbers that are cut short are told.
func TestTooLong(t *testing.T) {
	of := func(l ...api.Rat) lowest.Row { return lowest.Of(l) }
	one := rat.Of(1)
	for i, c := range []struct {
		work func() lowest.Row
		e    api.Errno
	}{
		{func() lowest.Row { return of(whole8(8000), one) }, api.OK},
		{func() lowest.Row { return of(whole8(8000), whole8(8000), whole8(7000)) }, api.OK},
		{func() lowest.Row { return of(part8(8000), one) }, api.OK},
		{func() lowest.Row { return of(part8(8000), part8(4000), part8(2000)) }, api.OK},
		{func() lowest.Row { return of(whole8(5000), part8(5000)) }, api.ErrLimit},
		{func() lowest.Row { return of(part8(4500), part8(3000)) }, api.OK},
		{func() lowest.Row { return of(part8(5000), part8(4999)) }, api.ErrLimit},
		{func() lowest.Row {
			return of(part8(7993), part8(7994), part8(7995), part8(7997), part8(7999), part8(8000))
		}, api.ErrLimit},
		{func() lowest.Row { return of(whole8(5000), one).Plus(part8(5000), of(one, one)) }, api.ErrLimit},
		{func() lowest.Row { return of(whole8(5000), one).Plus(part8(2000), of(one, one)) }, api.OK},
		{func() lowest.Row { return of(whole8(8000)).Times(part8(8000)) }, api.OK},
		{func() lowest.Row { return of(whole8(8000)).Times(whole8(2)) }, api.ErrLimit},
		{func() lowest.Row { return of(whole8(4000), one).Plus(whole8(4500), of(whole8(4000), one)) }, api.OK},
		{func() lowest.Row { return of(whole8(4000), one).Plus(whole8(4500), of(whole8(4000), rat.Of(2))) }, api.ErrLimit},
	} {
		if x, e := short.Answer(c.work); e != c.e || e == api.OK && !isLowest(x) {
			t.Errorf("case %d: error %d", i, e)
		}
	}
	if _, e := short.Answer(func() api.Rat { return of(whole8(4100), one).Dot(of(whole8(4100), one)) }); e != api.ErrLimit {
		t.Errorf("Dot: error %d", e)
	}
	if a, e := short.Answer(func() api.Rat { return of(whole8(8000)).Dot(of(part8(8000))) }); e != api.OK || rat.Check(a) != api.OK {
		t.Errorf("Dot: error %d", e)
	}
	if _, e := short.Answer(func() []api.Rat { return of(whole8(8000), one).Times(part8(8000)).Numbers() }); e != api.OK {
		t.Errorf("Numbers: error %d", e)
	}
}
