package long_test

import (
	"math/big"
	"math/rand/v2"
	"slices"
	"testing"

	"gusset/api"
	"gusset/long"
)

// ratOf is a number of the library as a Rat.
func ratOf(x *big.Rat) api.Rat { return api.Rat{Num: intOf(x.Num()), Den: api.Nat(x.Denom().Bytes())} }

// bytesOf is a number above 0 of n bytes at most.
func bytesOf(r *rand.Rand, n int) *big.Int {
	l := make([]byte, n)
	for i := range l {
		l[i] = byte(r.Uint32())
	}
	l[n-1] |= 1
	return new(big.Int).SetBytes(l)
}

// TestSumsOfProducts holds sums of products of fractions against the library: with denominators that many of them have, that divide one another, that are 1, and that have nothing in common.
func TestSumsOfProducts(t *testing.T) {
	r := rand.New(rand.NewPCG(11, 12))
	for i := range 300 {
		n := 1 + i%40
		dens := []*big.Int{big.NewInt(1), big.NewInt(2), big.NewInt(4), big.NewInt(6), bytesOf(r, n), bytesOf(r, n)}
		dens = append(dens, new(big.Int).Mul(dens[4], dens[5]))
		want, parts := new(big.Rat), []long.Part(nil)
		for range i % 12 {
			product, factors := big.NewRat(1, 1), []api.Rat(nil)
			for range r.IntN(4) {
				x := new(big.Rat).SetFrac(new(big.Int).Sub(bytesOf(r, n), bytesOf(r, n)), dens[r.IntN(len(dens))])
				product.Mul(product, x)
				factors = append(factors, ratOf(x))
			}
			part := long.Product(factors...)
			if r.IntN(2) == 0 {
				part = part.Negated()
				product.Neg(product)
			}
			want.Add(want, product)
			parts = append(parts, part)
		}
		if a := long.Sum(parts...); a != ratOf(want) {
			t.Fatalf("case %d: %#v, not %v", i, a, want)
		}
	}
}

// TestSumsOfLongNumbers asks about sums that are longer than package whole takes, of many and of few parts.
func TestSumsOfLongNumbers(t *testing.T) {
	r := rand.New(rand.NewPCG(13, 14))
	for _, c := range []struct{ parts, bytes int }{{500, 100}, {5, 8000}, {3, 16000}, {40, 1001}} {
		over, under, parts := new(big.Int), big.NewInt(1), []long.Part(nil)
		for range c.parts {
			x := new(big.Rat).SetFrac(bytesOf(r, c.bytes), bytesOf(r, c.bytes))
			over.Add(over.Mul(over, x.Denom()), new(big.Int).Mul(under, x.Num())) // the library's sums would take their time
			under.Mul(under, x.Denom())
			parts = append(parts, long.Product(ratOf(x)))
		}
		want := new(big.Rat).SetFrac(over, under)
		given := slices.Clone(parts)
		if a := long.Sum(parts...); a != ratOf(want) || len(a.Num.Mag) < 32000 {
			t.Errorf("%d parts of %d bytes: %d bytes", c.parts, c.bytes, len(a.Num.Mag))
		}
		for _, p := range given {
			parts = append(parts, p.Negated())
		}
		if a := long.Sum(parts...); a != ratOf(new(big.Rat)) {
			t.Errorf("%d parts of %d bytes, and the same taken away: %d bytes", c.parts, c.bytes, len(a.Num.Mag))
		}
	}
}

func TestSumsOfNothing(t *testing.T) {
	zero, one := ratOf(new(big.Rat)), ratOf(big.NewRat(1, 1))
	third := ratOf(big.NewRat(-1, 3))
	for i, c := range []struct {
		parts []long.Part
		want  api.Rat
	}{
		{nil, zero}, {[]long.Part{long.Product()}, one}, {[]long.Part{long.Product(zero)}, zero}, {[]long.Part{long.Product(third, zero), long.Product(zero, third).Negated()}, zero},
		{[]long.Part{long.Product(third, third)}, ratOf(big.NewRat(1, 9))}, {[]long.Part{long.Product(third, third).Negated(), long.Product(third)}, ratOf(big.NewRat(-4, 9))},
	} {
		if a := long.Sum(c.parts...); a != c.want {
			t.Errorf("case %d: %#v", i, a)
		}
	}
}
