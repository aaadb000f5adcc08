// Package limb is layer 1, rows of limbs: see shared/doc/01-limb.md.
package limb

import (
	"math/bits"
	"strings"

	"gusset/api"
)

// limbBytes is how many bytes of a Nat make a limb.
const limbBytes = 8

// Of is a number's limbs.
func Of(n api.Nat) ([]uint64, api.Errno) {
	if len(n) > limbBytes*api.MaxLimbs {
		return nil, api.ErrLimit
	}
	if len(n) > 0 && n[0] == 0 {
		return nil, api.ErrArg
	}
	row := make([]uint64, (len(n)+limbBytes-1)/limbBytes)
	for i := range row {
		end := len(n) - limbBytes*i
		row[i] = limbOf(n[max(end-limbBytes, 0):end])
	}
	return row, api.OK
}

// limbOf reads at most eight bytes, the highest first. Eight are written out, for then they are read at once.
func limbOf(n api.Nat) uint64 {
	if len(n) == limbBytes {
		return uint64(n[7]) | uint64(n[6])<<8 | uint64(n[5])<<16 | uint64(n[4])<<24 |
			uint64(n[3])<<32 | uint64(n[2])<<40 | uint64(n[1])<<48 | uint64(n[0])<<56
	}
	limb := uint64(0)
	for _, c := range []byte(n) {
		limb = limb<<8 | uint64(c)
	}
	return limb
}

// Nat is the number of limbs.
func Nat(l []uint64) (api.Nat, api.Errno) {
	if tooLong(l) {
		return "", api.ErrLimit
	}
	row := trimmed(l)
	if len(row) == 0 {
		return "", api.OK
	}
	skip := bits.LeadingZeros64(row[len(row)-1]) / 8
	var out strings.Builder
	out.Grow(limbBytes*len(row) - skip)
	for i := len(row) - 1; i >= 0; i-- {
		bytes := bytesOf(row[i])
		out.Write(bytes[skip:])
		skip = 0 // only the highest limb may begin with bytes 0 that are none of the number's
	}
	return api.Nat(out.String()), api.OK
}

// bytesOf is a limb's bytes, the highest first.
func bytesOf(limb uint64) [limbBytes]byte {
	return [limbBytes]byte{
		byte(limb >> 56), byte(limb >> 48), byte(limb >> 40), byte(limb >> 32),
		byte(limb >> 24), byte(limb >> 16), byte(limb >> 8), byte(limb),
	}
}

// Cmp is the order of two.
func Cmp(a []uint64, b []uint64) (int, api.Errno) {
	if tooLong(a, b) {
		return 0, api.ErrLimit
	}
	return order(a, b), api.OK
}

// order is Cmp of rows of any length.
func order(a []uint64, b []uint64) int {
	atA, atB := reader(a), reader(b)
	for i := max(len(a), len(b)) - 1; i >= 0; i-- {
		if x, y := atA(i), atB(i); x < y {
			return -1
		} else if x > y {
			return 1
		}
	}
	return 0
}

// Add is the sum of two.
func Add(a []uint64, b []uint64) ([]uint64, api.Errno) {
	if tooLong(a, b) {
		return nil, api.ErrLimit
	}
	atA, atB := reader(a), reader(b)
	sum := make([]uint64, max(len(a), len(b))+1)
	carry := uint64(0)
	for i := range sum {
		sum[i], carry = bits.Add64(atA(i), atB(i), carry)
	}
	return trimmed(sum), api.OK
}

// Sub takes b away from a.
func Sub(a []uint64, b []uint64) ([]uint64, api.Errno) {
	if tooLong(a, b) {
		return nil, api.ErrLimit
	}
	atA, atB := reader(a), reader(b)
	less := make([]uint64, max(len(a), len(b)))
	borrow := uint64(0)
	for i := range less {
		less[i], borrow = bits.Sub64(atA(i), atB(i), borrow)
	}
	if borrow != 0 {
		return nil, api.ErrLess
	}
	return trimmed(less), api.OK
}

// Mul is the product of two; it may be longer than what may be handed in.
func Mul(a []uint64, b []uint64) ([]uint64, api.Errno) {
	if tooLong(a, b) {
		return nil, api.ErrLimit
	}
	return trimmed(product(trimmed(a), trimmed(b))), api.OK
}

// DivMod is the quotient, rounded down, and the rest.
func DivMod(a []uint64, b []uint64) ([]uint64, []uint64, api.Errno) {
	if tooLong(a, b) {
		return nil, nil, api.ErrLimit
	}
	a, b = trimmed(a), trimmed(b)
	if len(b) == 0 {
		return nil, nil, api.ErrZero
	}
	quotient, rest := divide(a, b)
	return trimmed(quotient), trimmed(rest), api.OK
}

// tooLong tells whether one of the rows has more limbs than there may be. Limbs 0 at the end count here, for it is the row that is long.
func tooLong(rows ...[]uint64) bool {
	for _, row := range rows {
		if len(row) > api.MaxLimbs {
			return true
		}
	}
	return false
}

// trimmed cuts the limbs 0 at a row's end, with the room behind it, so that nobody can grow into them.
func trimmed(row []uint64) []uint64 {
	n := len(row)
	for n > 0 && row[n-1] == 0 {
		n--
	}
	return row[:n:n]
}

// reader tells a row's limbs by their places: those beyond it are 0, so that rows of unlike lengths can be gone through together.
func reader(row []uint64) func(int) uint64 {
	return func(i int) uint64 {
		if i < len(row) {
			return row[i]
		}
		return 0
	}
}
