// Package lowest has rows of numbers that are reckoned with together: whole numbers in their lowest terms (no number but 1 divides all of them), and a factor that they share. So a row has one denominator, and divisors are asked for once a row, not once a number and again with each sum.
//
// Where a number is too long, one gives up as package short does.
package lowest

import (
	"gusset/api"
	"gusset/long"
	"gusset/rat"
	"gusset/short"
	"gusset/whole"
)

// one is the Nat 1.
const one api.Nat = "\x01"

// Row is numbers: Factor, which is above 0, times each of Nums, which are in their lowest terms. (Of noughts alone it may be any.)
type Row struct {
	Factor api.Rat
	Nums   []api.Int
}

// Of is the row of numbers that may be.
func Of(l []api.Rat) Row {
	unit := unitOf(l)
	nums := make([]api.Int, len(l))
	for i, a := range l {
		nums[i] = long.Mul(a.Num, quotient(unit, api.Int{Mag: a.Den}))
	}
	return Make(nums, part(unit.Mag))
}

// unitOf is the least number above 0 of which all denominators are divisors.
func unitOf(l []api.Rat) api.Int {
	unit := api.Int{Mag: one}
	for _, a := range l {
		den := api.Int{Mag: a.Den}
		missing := quotient(den, divisor(unit, den))
		unit = short.Whole(long.Mul(unit, missing))
	}
	return unit
}

// Make is the row of whole numbers, which have at most 32000 bytes each, times factors above 0. These are put together with what divides all numbers, and no sooner, for that cuts them short.
func Make(nums []api.Int, factors ...api.Rat) Row {
	common := api.Int{}
	for _, n := range nums {
		common = divisor(common, n)
	}
	out := Row{Factor: rat.Of(1), Nums: make([]api.Int, len(nums))}
	if common.Mag == "" {
		return out
	}
	for i, n := range nums {
		out.Nums[i] = short.Whole(quotient(n, common))
	}
	out.Factor = product(append(factors, rational(common))...)
	return out
}

// Times is a row times a number above 0.
func (x Row) Times(a api.Rat) Row { return Row{Factor: product(x.Factor, a), Nums: x.Nums} }

// Plus is a row, and a times another one that is as long.
func (x Row) Plus(a api.Rat, y Row) Row {
	share := product(a, y.Factor, inverse(x.Factor))
	nums := make([]api.Int, len(x.Nums))
	for i, n := range x.Nums {
		nums[i] = long.Add(long.Mul(n, api.Int{Mag: share.Den}), long.Mul(y.Nums[i], share.Num))
	}
	return Make(nums, x.Factor, part(share.Den))
}

// Dot is the sum of a row's numbers times those of another one that is as long.
func (x Row) Dot(y Row) api.Rat {
	sum := api.Int{}
	for i, n := range x.Nums {
		sum = long.Add(sum, long.Mul(n, y.Nums[i]))
	}
	return product(x.Factor, y.Factor, rational(sum))
}

// Numbers are the row's, one by one.
func (x Row) Numbers() []api.Rat {
	out := make([]api.Rat, len(x.Nums))
	for i, n := range x.Nums {
		out[i] = product(x.Factor, rational(n))
	}
	return out
}

// product is that of numbers, whose numerators may be longer than they may be.
func product(l ...api.Rat) api.Rat { return short.Fit(long.Sum(long.Product(l...))) }

// rational is a whole number as a Rat.
func rational(n api.Int) api.Rat { return api.Rat{Num: n, Den: one} }

// part is 1 divided by a number above 0.
func part(n api.Nat) api.Rat { return api.Rat{Num: api.Int{Mag: one}, Den: n} }

// inverse is 1 divided by a number above 0.
func inverse(a api.Rat) api.Rat { return api.Rat{Num: api.Int{Mag: a.Den}, Den: a.Num.Mag} }

// divisor is the greatest common divisor, of which 1 leaves nothing to find.
func divisor(a api.Int, b api.Int) api.Int {
	if a.Mag == one || b.Mag == one {
		return api.Int{Mag: one}
	}
	out, _ := whole.Gcd(a, b)
	return out
}

// quotient divides by a number above 0 that divides.
func quotient(a api.Int, by api.Int) api.Int {
	if by.Mag == one {
		return a
	}
	out, _, _ := whole.Div(a, by)
	return out
}
