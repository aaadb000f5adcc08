package whole

import (
	"math/bits"

	"gusset/limb"
)

// stepLimit is what the factors of few steps stay below. So those of twice as many still fit a limb, and what the leading limbs leave out weighs little enough (see fewSteps).
const stepLimit = 1 << 30

// steps are some of Euclid's steps at once: x becomes the distance of a x and b y, y that of c x and d y.
type steps struct {
	a, b, c, d uint64
}

// commonDivisor is the greatest common divisor of two rows, which it uses up. Where the leading limbs alone tell Euclid's next steps, many are taken at once (Lehmer's way); else one is taken by a division.
func commonDivisor(x []uint64, y []uint64) []uint64 {
	if order, _ := limb.Cmp(x, y); order < 0 {
		x, y = y, x
	}
	y = append(make([]uint64, 0, len(x)), y...)
	for len(y) > 1 {
		if s := leadingSteps(x, y); s.none() {
			_, rest, _ := limb.DivMod(x, y)
			x, y = y, append(x[:0], rest...)
		} else {
			y = longer(y, len(x))
			s.take(x, y)
			x, y = shorter(x), shorter(y)
		}
	}
	if len(y) == 0 {
		return x
	}
	_, rest, _ := limb.DivMod(x, y)
	return []uint64{limbDivisor(y[0], rest)}
}

// limbDivisor is the greatest common divisor of a limb that is not 0 and a row of one limb at most, by halving and taking away.
func limbDivisor(x uint64, row []uint64) uint64 {
	if len(row) == 0 {
		return x
	}
	y := row[0]
	twos := bits.TrailingZeros64(x | y)
	x >>= bits.TrailingZeros64(x)
	for y != 0 {
		y >>= bits.TrailingZeros64(y)
		x, y = min(x, y), max(x, y)-min(x, y)
	}
	return x << twos
}

// longer fills a row up to n limbs, in its own room.
func longer(row []uint64, n int) []uint64 {
	clear(row[len(row):n])
	return row[:n]
}

// shorter leaves out limbs 0 at the end, but keeps their room.
func shorter(row []uint64) []uint64 {
	for len(row) > 0 && row[len(row)-1] == 0 {
		row = row[:len(row)-1]
	}
	return row
}

// leadingSteps are steps that are sure from the two leading limbs of x, which is not less than y and has at least two: some from the highest limb, and, after these, some from the highest limb that is then left.
func leadingSteps(x []uint64, y []uint64) steps {
	shift := bits.LeadingZeros64(x[len(x)-1])
	topX, topY := leading(x, len(x), shift), leading(y, len(x), shift)
	first := fewSteps(topX[1], topY[1])
	first.take(topX[:], topY[:])
	shift = bits.LeadingZeros64(topX[1])
	second := fewSteps(leading(topX[:], 2, shift)[1], leading(topY[:], 2, shift)[1])
	return second.after(first)
}

// leading is the two limbs ahead of place n of a row, the lower one first, shifted up by what lies below them.
func leading(row []uint64, n int, shift int) [2]uint64 {
	at := func(i int) uint64 {
		if i < 0 || i >= len(row) {
			return 0
		}
		return row[i]
	}
	low, middle, high := at(n-3), at(n-2), at(n-1)
	return [2]uint64{middle<<shift | low>>(64-shift), high<<shift | middle>>(64-shift)}
}

// fewSteps are steps of two numbers of which x and y are the leading bits, up to less than 5/4 too small or 1/4 too great. A step's rest is then off by less than twice the factors it is made of: while it is farther than that from 0 and from what was divided by, the quotient is that of the numbers themselves.
//
// (So it is in leadingSteps, where both times x has its highest bit set: at first only lower limbs are left out. The first steps' factors, below 2^30, times what they make of the highest limb, are that limb: so it is at least 2^31 afterwards, and 2^32 of the lower limb's units go into the last bit that is looked at. That limb is off by less than the factors, which is a quarter of it.)
func fewSteps(x uint64, y uint64) steps {
	s := steps{1, 0, 0, 1}
	for y != 0 {
		quotient, rest := x/y, x%y
		if quotient >= stepLimit {
			break
		}
		c, d := s.a+quotient*s.c, s.b+quotient*s.d
		if d >= stepLimit || rest < 2*d || y-rest < 2*(s.d+d) {
			break
		}
		x, y = y, rest
		s = steps{s.c, s.d, c, d}
	}
	return s
}

// none tells whether there is no step.
func (s steps) none() bool { return s.b == 0 }

// after is the steps of first, and then those of s.
func (s steps) after(first steps) steps {
	return steps{
		s.a*first.a + s.b*first.c, s.a*first.b + s.b*first.d,
		s.c*first.a + s.d*first.c, s.c*first.b + s.d*first.d,
	}
}

// take takes the steps, in the rows' own room; both are as long. What comes out is not longer, so that beyond the rows there is nothing but the sign.
func (s steps) take(x []uint64, y []uint64) {
	var ax, by, cx, dy, lessX, lessY uint64
	y = y[:len(x)]
	for i, limbX := range x {
		limbY := y[i]
		var plus, minus uint64
		plus, ax = times(limbX, s.a, ax)
		minus, by = times(limbY, s.b, by)
		x[i], lessX = bits.Sub64(plus, minus, lessX)
		plus, cx = times(limbX, s.c, cx)
		minus, dy = times(limbY, s.d, dy)
		y[i], lessY = bits.Sub64(plus, minus, lessY)
	}
	if ax < by || ax == by && lessX != 0 {
		turn(x)
	}
	if cx < dy || cx == dy && lessY != 0 {
		turn(y)
	}
}

// times is the lower and the higher limb of x times factor, and more.
func times(x uint64, factor uint64, more uint64) (uint64, uint64) {
	high, low := bits.Mul64(x, factor)
	low, carry := bits.Add64(low, more, 0)
	return low, high + carry
}

// turn turns the sign of a row that went below 0.
func turn(row []uint64) {
	borrow := uint64(0)
	for i, x := range row {
		row[i], borrow = bits.Sub64(0, x, borrow)
	}
}
