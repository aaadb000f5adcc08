package limb

import "math/bits"

// divide is the quotient and the rest of trimmed rows; b is not 0.
func divide(a []uint64, b []uint64) ([]uint64, []uint64) {
	switch {
	case len(a) < len(b):
		return nil, append([]uint64(nil), a...)
	case len(b) == 1:
		return divideShort(a, b[0])
	default:
		return divideLong(a, b)
	}
}

// divideShort divides by a single limb.
func divideShort(a []uint64, b uint64) ([]uint64, []uint64) {
	quotient := make([]uint64, len(a))
	rest := uint64(0)
	for i := len(a) - 1; i >= 0; i-- {
		quotient[i], rest = bits.Div64(rest, a[i], b)
	}
	return quotient, []uint64{rest}
}

// divideLong divides by two limbs or more, limb by limb of the quotient as on paper. Both are shifted first so that the divisor's highest bit is set: then no limb is guessed too great by more than 2.
func divideLong(a []uint64, b []uint64) ([]uint64, []uint64) {
	n := len(b)
	shift := bits.LeadingZeros64(b[n-1])
	divisor := shiftedUp(b, shift)[:n:n]
	rest := shiftedUp(a, shift)
	quotient := make([]uint64, len(a)-n+1)
	for i := len(a) - n; i >= 0; i-- {
		part := rest[i : i+n+1 : i+n+1]
		guess := guessLimb(part[n], part[n-1], part[n-2], divisor[n-1], divisor[n-2])
		missing := takeTimes(part[:n:n], divisor, guess)
		above := part[n]
		part[n] = above - missing
		if above < missing {
			guess--
			part[n] += addTo(part[:n:n], divisor)
		}
		quotient[i] = guess
	}
	shiftDown(rest, shift)
	return quotient, rest
}

// guessLimb divides the three highest limbs of a part by the two highest of the divisor: the limb is right, or too great by 1.
func guessLimb(top uint64, next uint64, low uint64, divisor uint64, below uint64) uint64 {
	if top >= divisor {
		return 1<<64 - 1
	}
	guess, rest := bits.Div64(top, next, divisor)
	for high, product := bits.Mul64(guess, below); high > rest || high == rest && product > low; high, product = bits.Mul64(guess, below) {
		guess--
		rest += divisor
		if rest < divisor { // beyond a limb: no product is as great
			break
		}
	}
	return guess
}

// shiftedUp is a row times 2^shift (shift from 0 to 63), a limb longer.
func shiftedUp(row []uint64, shift int) []uint64 {
	out := make([]uint64, len(row)+1)
	for i, x := range row {
		out[i] |= x << shift
		out[i+1] = x >> (64 - shift)
	}
	return out
}

// shiftDown divides a row by 2^shift (shift from 0 to 63), in its place.
func shiftDown(row []uint64, shift int) {
	for i := range row {
		row[i] >>= shift
		if i+1 < len(row) {
			row[i] |= row[i+1] << (64 - shift)
		}
	}
}
