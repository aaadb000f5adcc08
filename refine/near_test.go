package refine

import (
	"math"
	"math/big"
	"math/rand/v2"
	"testing"

	"gusset/api"
)

// Which points are put in is free: so what chooses them is held against the library's numbers here.

func ratOf(x *big.Rat) api.Rat {
	return api.Rat{Num: api.Int{Neg: x.Sign() < 0, Mag: api.Nat(x.Num().Bytes())}, Den: api.Nat(x.Denom().Bytes())}
}

func bigOf(a api.Rat) *big.Rat {
	x := new(big.Rat).SetFrac(new(big.Int).SetBytes([]byte(a.Num.Mag)), new(big.Int).SetBytes([]byte(a.Den)))
	if a.Num.Neg {
		x.Neg(x)
	}
	return x
}

// anyRat is a number of up to n bits above the stroke and below it.
func anyRat(r *rand.Rand, n int) *big.Rat {
	part := func() *big.Int {
		x := new(big.Int).SetUint64(r.Uint64() | 1)
		x.Lsh(x, uint(r.IntN(n))).Rsh(x, uint(r.IntN(64)))
		return x.Add(x, big.NewInt(1))
	}
	return new(big.Rat).SetFrac(part(), part())
}

// TestLog holds that a log is near to the logarithm, and that of greater amounts is not less.
func TestLog(t *testing.T) {
	r := rand.New(rand.NewPCG(163, 164))
	for range 3000 {
		x, y := anyRat(r, 200), anyRat(r, 200)
		a, b := amountOf(ratOf(x)), amountOf(ratOf(y))
		mantissa, power := new(big.Float).SetRat(x), 0
		power = mantissa.MantExp(mantissa)
		near, _ := mantissa.Float64()
		if want := (float64(power) + math.Log2(near)) * octave; math.Abs(float64(a.log())-want) > octave/10 {
			t.Fatalf("the log of %v: %d, not about %v", x, a.log(), want)
		}
		if x.Cmp(y) > 0 && a.log() < b.log()-1 || a.isBelow(b) != (x.Cmp(y) < 0) {
			t.Fatalf("%v and %v: %d, %d, below: %v", x, y, a.log(), b.log(), a.isBelow(b))
		}
		if a.half().log() != a.log()-octave || !least(b, a, a.half(), b).isBelow(a) {
			t.Fatalf("half of %v: %d, not %d", x, a.half().log(), a.log()-octave)
		}
	}
	for n := -70; n <= 70; n++ {
		if log := amountOf(power(n)).log(); log != n*octave {
			t.Errorf("the log of 2^%d: %d", n, log)
		}
	}
}

// TestNearest holds that of a net's numbers the nearest one is told.
func TestNearest(t *testing.T) {
	r := rand.New(rand.NewPCG(165, 166))
	for range 2000 {
		x, fine := anyRat(r, 100), r.IntN(200)-100
		if r.IntN(2) == 0 {
			x.Neg(x)
		}
		step := bigOf(power(-fine))
		p := nearest(api.Point{X: ratOf(x), Y: ratOf(step)}, fine)
		off := new(big.Rat).Sub(bigOf(p.X), x)
		if off.Abs(off).Cmp(new(big.Rat).Mul(step, big.NewRat(1, 2))) > 0 || !new(big.Rat).Quo(bigOf(p.X), step).IsInt() || p.Y != ratOf(step) {
			t.Fatalf("%v in steps of %v: %v", x, step, bigOf(p.X))
		}
	}
}

// TestNearer holds that points come nearer and nearer to a centre, from a tenth of the radius on, down to itself if its numbers are short.
func TestNearer(t *testing.T) {
	r := rand.New(rand.NewPCG(167, 168))
	ended := [2]int{}
	for i := range 300 {
		centre := api.Point{X: ratOf(anyRat(r, 700)), Y: ratOf(anyRat(r, 300))}
		if i%3 == 0 { // in a net
			centre = nearest(centre, r.IntN(40))
		}
		radius2 := anyRat(r, 300)
		far := func(p api.Point) *big.Rat {
			x, y := new(big.Rat).Sub(bigOf(p.X), bigOf(centre.X)), new(big.Rat).Sub(bigOf(p.Y), bigOf(centre.Y))
			return x.Add(x.Mul(x, x), y.Mul(y, y))
		}
		limit2, last := new(big.Rat).Mul(radius2, big.NewRat(1, 100)), api.Point{}
		for p := range nearer(centre, amountOf(ratOf(radius2)).log()) {
			if isLong(p) || far(p).Cmp(limit2) >= 0 || last == centre {
				t.Fatalf("%v is not near enough to %v", p, centre)
			}
			limit2.Mul(limit2, big.NewRat(1, 16))
			last = p
		}
		if !isLong(centre) && last != centre {
			t.Fatalf("%v is short, but not the last one", centre)
		}
		if isLong(centre) {
			ended[1]++
		} else {
			ended[0]++
		}
	}
	if min(ended[0], ended[1]) < 50 {
		t.Errorf("short and long: %v", ended)
	}
}
