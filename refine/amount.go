package refine

import (
	"math/bits"

	"gusset/api"
	"gusset/span"
)

// amount is a length, squared: a quotient that need not be in its lowest terms, as it is only held against others.
type amount struct {
	over  span.Number
	under span.Number // above 0
}

// amountOf is a number that may be.
func amountOf(a api.Rat) amount {
	return amount{span.NumberOf(a.Num), span.NumberOf(api.Int{Mag: a.Den})}
}

// length2 is how long a way is, squared.
func length2(u span.Span) amount { return amount{u.Square(), u.Unit.Times(u.Unit)} }

// half is half of an amount.
func (a amount) half() amount { return amount{a.over, a.under.Plus(a.under)} }

// isBelow tells whether an amount is less than another.
func (a amount) isBelow(b amount) bool {
	return a.over.Times(b.under).Minus(b.over.Times(a.under)).Sign() < 0
}

// least is the least of amounts, of which there is one.
func least(first amount, others ...amount) amount {
	for _, a := range others {
		if a.isBelow(first) {
			first = a
		}
	}
	return first
}

// octave is by how much a log is greater, if its amount is doubled: a power of 2.
const (
	octaveBits = 16
	octave     = 1 << octaveBits
)

// log grows with an amount above 0; that of 1 is 0. It is a whole number, so that amounts which are nearly the same may have the same one.
func (a amount) log() int {
	over, high := top(a.over)
	under, low := top(a.under)
	steps := high - low
	part := over * octave / under // from half an octave to two of them
	if part < octave {
		steps--
		part *= 2
	}
	return (steps-1)*octave + int(part)
}

// top are the first 32 bits of a number above 0, from the highest one on that is 1, with noughts behind them if it has fewer; and how many bits it has.
func top(n span.Number) (uint64, int) {
	mag := n.Int().Mag
	first, bytes := bits.Len8(mag[0]), uint64(0)
	for i := range 5 {
		bytes *= 256
		if i < len(mag) {
			bytes += uint64(mag[i])
		}
	}
	return bytes >> first, 8*(len(mag)-1) + first
}
