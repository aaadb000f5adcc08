package limb

import "math/bits"

// splitFrom is from how many limbs on three half products are cheaper than plain multiplication.
const splitFrom = 40

// product is a times b, as long as both together.
func product(a []uint64, b []uint64) []uint64 {
	if len(a) < len(b) {
		a, b = b, a
	}
	out := make([]uint64, len(a)+len(b))
	switch n := len(b); {
	case n < splitFrom:
		for i, limb := range b {
			out[i+len(a)] = addTimes(out[i:i+len(a):i+len(a)], a, limb)
		}
	case n == len(a):
		splitProduct(out, a, b)
	default:
		for i := 0; i < len(a); i += n {
			end := min(i+n, len(a))
			addTo(out[i:], product(a[i:end:end], b))
		}
	}
	return out
}

// splitProduct puts the product of two rows of one length into out, which is all 0, by Karatsuba's rule: of low and high halves the mixed products are that of the sums, less the two others.
func splitProduct(out []uint64, a []uint64, b []uint64) {
	n := len(a)
	half := (n + 1) / 2
	low := product(a[:half:half], b[:half:half])
	high := product(a[half:n:n], b[half:n:n])
	mixed := product(halfSum(a, half), halfSum(b, half))
	takeFrom(mixed, low)
	takeFrom(mixed, high)
	copy(out, low)
	copy(out[2*half:], high)
	addTo(out[half:], trimmed(mixed))
}

// halfSum is the sum of a row's first limbs and its others, which are not more.
func halfSum(row []uint64, half int) []uint64 {
	sum := make([]uint64, half+1)
	copy(sum, row[:half:half])
	addTo(sum, row[half:])
	return sum
}

// addTimes adds row times limb to out, which is as long as row, and tells what goes beyond it.
func addTimes(out []uint64, row []uint64, limb uint64) uint64 {
	carry := uint64(0)
	out = out[:len(row)]
	for i, x := range row {
		high, low := bits.Mul64(x, limb)
		low, c := bits.Add64(low, carry, 0)
		high += c
		out[i], c = bits.Add64(out[i], low, 0)
		carry = high + c
	}
	return carry
}

// takeTimes takes row times limb from out, which is as long as row, and tells what is missing beyond it.
func takeTimes(out []uint64, row []uint64, limb uint64) uint64 {
	missing := uint64(0)
	out = out[:len(row)]
	for i, x := range row {
		high, low := bits.Mul64(x, limb)
		low, c := bits.Add64(low, missing, 0)
		high += c
		out[i], c = bits.Sub64(out[i], low, 0)
		missing = high + c
	}
	return missing
}

// addTo adds row to out, which is not shorter, and tells what goes beyond it.
func addTo(out []uint64, row []uint64) uint64 {
	carry := uint64(0)
	for i, x := range row {
		out[i], carry = bits.Add64(out[i], x, carry)
	}
	for i := len(row); carry != 0 && i < len(out); i++ {
		out[i], carry = bits.Add64(out[i], 0, carry)
	}
	return carry
}

// takeFrom takes row, which is neither longer nor greater, from out.
func takeFrom(out []uint64, row []uint64) {
	borrow := uint64(0)
	for i, x := range row {
		out[i], borrow = bits.Sub64(out[i], x, borrow)
	}
	for i := len(row); borrow != 0 && i < len(out); i++ {
		out[i], borrow = bits.Sub64(out[i], 0, borrow)
	}
}
