// Package whole is layer 2, whole numbers: see shared/doc/02-whole.md.
package whole

import (
	"strings"

	"gusset/api"
	"gusset/limb"
)

// maxBytes is how many bytes the Mag of a number may have that is handed in: limb takes no more limbs.
const maxBytes = 8 * api.MaxLimbs

// number is a whole number as it is reckoned with: a sign, and limbs. 0 may have either sign.
type number struct {
	neg bool
	row []uint64
}

// Check tells whether a number may be so.
func Check(a api.Int) api.Errno {
	switch {
	case len(a.Mag) > maxBytes:
		return api.ErrLimit
	case len(a.Mag) == 0 && a.Neg, len(a.Mag) > 0 && a.Mag[0] == 0:
		return api.ErrArg
	}
	return api.OK
}

// Cmp is the order of two.
func Cmp(a api.Int, b api.Int) (int, api.Errno) {
	n, e := read(a, b)
	if e != api.OK {
		return 0, e
	}
	switch {
	case a.Neg && !b.Neg:
		return -1, api.OK
	case b.Neg && !a.Neg:
		return 1, api.OK
	case a.Neg:
		return limb.Cmp(n[1].row, n[0].row)
	}
	return limb.Cmp(n[0].row, n[1].row)
}

// Add is the sum of two.
func Add(a api.Int, b api.Int) (api.Int, api.Errno) {
	n, e := read(a, b)
	if e != api.OK {
		return api.Int{}, e
	}
	return sum(n[0], n[1]), api.OK
}

// Sub is a less b.
func Sub(a api.Int, b api.Int) (api.Int, api.Errno) {
	n, e := read(a, b)
	if e != api.OK {
		return api.Int{}, e
	}
	n[1].neg = !n[1].neg
	return sum(n[0], n[1]), api.OK
}

// sum adds two numbers: of unlike signs the lesser is taken from the greater.
func sum(a number, b number) api.Int {
	if a.neg == b.neg {
		row, _ := limb.Add(a.row, b.row)
		return tell(number{a.neg, row})
	}
	if order, _ := limb.Cmp(a.row, b.row); order < 0 {
		a, b = b, a
	}
	row, _ := limb.Sub(a.row, b.row)
	return tell(number{a.neg, row})
}

// Mul is the product of two.
func Mul(a api.Int, b api.Int) (api.Int, api.Errno) {
	n, e := read(a, b)
	if e != api.OK {
		return api.Int{}, e
	}
	row, _ := limb.Mul(n[0].row, n[1].row)
	return tell(number{a.Neg != b.Neg, row}), api.OK
}

// Div is the quotient, and a rest that is never below 0.
func Div(a api.Int, b api.Int) (api.Int, api.Int, api.Errno) {
	n, e := read(a, b)
	if e != api.OK {
		return api.Int{}, api.Int{}, e
	}
	quotient, rest, e := limb.DivMod(n[0].row, n[1].row)
	if e != api.OK {
		return api.Int{}, api.Int{}, e
	}
	if a.Neg && len(rest) > 0 { // the rest would be below 0: one more is taken away
		quotient, _ = limb.Add(quotient, []uint64{1})
		rest, _ = limb.Sub(n[1].row, rest)
	}
	return tell(number{a.Neg != b.Neg, quotient}), tell(number{false, rest}), api.OK
}

// Gcd is the greatest common divisor.
func Gcd(a api.Int, b api.Int) (api.Int, api.Errno) {
	n, e := read(a, b)
	if e != api.OK {
		return api.Int{}, e
	}
	return tell(number{false, commonDivisor(n[0].row, n[1].row)}), api.OK
}

// Of is a small number.
func Of(n int) api.Int {
	mag := uint64(n)
	if n < 0 {
		mag = -mag // right of the least int too, which has no positive one
	}
	return tell(number{n < 0, []uint64{mag}})
}

// read reads numbers, or tells the error of the first that may not be.
func read(l ...api.Int) ([]number, api.Errno) {
	out := make([]number, len(l))
	for i, a := range l {
		if e := Check(a); e != api.OK {
			return nil, e
		}
		row, _ := limb.Of(a.Mag)
		out[i] = number{a.Neg, row}
	}
	return out, api.OK
}

// tell is a number in its one form.
func tell(n number) api.Int {
	mag := natOf(n.row)
	return api.Int{Neg: n.neg && mag != "", Mag: mag}
}

// natOf is limb.Nat of trimmed limbs of any length: sums and products may be longer than what limb.Nat takes, and are told in pieces.
func natOf(row []uint64) api.Nat {
	if len(row) <= api.MaxLimbs {
		mag, _ := limb.Nat(row)
		return mag
	}
	low, _ := limb.Nat(row[:api.MaxLimbs:api.MaxLimbs])
	high := natOf(row[api.MaxLimbs:])
	return high + api.Nat(strings.Repeat("\x00", maxBytes-len(low))) + low
}
