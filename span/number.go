package span

import (
	"gusset/api"
	"gusset/limb"
	"gusset/long"
	"gusset/whole"
)

// Number is a whole number as its limbs, trimmed: so it goes from one product into the next without being told and read again. What is made of numbers that may be asked, by a few products, is far shorter than what package limb takes, whose errors are therefore none here.
type Number struct {
	neg bool
	row []uint64
}

// NumberOf reads a number that may be.
func NumberOf(a api.Int) Number {
	row, _ := limb.Of(a.Mag)
	return Number{a.Neg, row}
}

// Shared is numbers that may be asked, each times the least unit that makes all of them whole; and that unit.
func Shared(l ...api.Rat) ([]Number, Number) {
	unit := whole.Of(1)
	for _, a := range l {
		den := api.Int{Mag: a.Den}
		common, _ := whole.Gcd(unit, den)
		missing, _, _ := whole.Div(den, common)
		unit, _ = whole.Mul(unit, missing)
	}
	out := make([]Number, len(l))
	for i, a := range l {
		factor, _, _ := whole.Div(unit, api.Int{Mag: a.Den})
		out[i] = NumberOf(a.Num).Times(NumberOf(factor))
	}
	return out, NumberOf(unit)
}

// Int is the number in its one form.
func (a Number) Int() api.Int {
	mag, _ := limb.Nat(a.row)
	return api.Int{Neg: a.Sign() < 0, Mag: mag}
}

// Sign is the order of a number and 0.
func (a Number) Sign() int {
	switch {
	case len(a.row) == 0:
		return 0
	case a.neg:
		return -1
	}
	return 1
}

// isOne tells whether a number is 1, as the denominator of every whole number is.
func (a Number) isOne() bool { return len(a.row) == 1 && a.row[0] == 1 && !a.neg }

// same tells whether two numbers above 0 are one.
func (a Number) same(b Number) bool {
	order, _ := limb.Cmp(a.row, b.row)
	return order == 0
}

// Size is a number without its sign.
func (a Number) Size() Number { return Number{row: a.row} }

// Plus is the sum of two: of unlike signs the lesser is taken from the greater.
func (a Number) Plus(b Number) Number {
	if a.neg == b.neg {
		row, _ := limb.Add(a.row, b.row)
		return Number{a.neg, row}
	}
	row, e := limb.Sub(a.row, b.row)
	if e != api.OK {
		row, _ = limb.Sub(b.row, a.row)
		return Number{b.neg, row}
	}
	return Number{a.neg, row}
}

// Minus is a less b.
func (a Number) Minus(b Number) Number { return a.Plus(Number{!b.neg, b.row}) }

// Times is the product of two.
func (a Number) Times(b Number) Number {
	switch {
	case a.isOne():
		return b
	case b.isOne():
		return a
	}
	row, _ := limb.Mul(a.row, b.row)
	return Number{a.neg != b.neg, row}
}

// Over is a number divided by all of dens, none of which is 0. Their signs are left out: one that may have any comes twice.
func (a Number) Over(dens ...Number) api.Rat {
	under := make([]api.Nat, len(dens))
	for i, d := range dens {
		under[i] = d.Int().Mag
	}
	return long.Over(a.Int(), under...)
}
