package refine

import (
	"iter"
	"strings"

	"gusset/api"
	"gusset/rat"
	"gusset/whole"
)

// How much finer than a circle's radius the nets are in which a point near its centre is looked for, as powers of 2: in the first one it is nearer than a tenth of the radius; in one that is finer than the last one all numbers are too long.
const (
	coarsest = 3
	finest   = 16 * maxBytes
)

// nearer yields points nearer and nearer to the centre of a circle, if one tells the log of its radius, squared; the centre itself is the last one. They are those of finer and finer square nets, whose numbers are short: those of centres, of which other centres come, would soon be too long. Where they are so, it ends.
func nearer(centre api.Point, log int) iter.Seq[api.Point] {
	radius := log >> (octaveBits + 1) // as a power of 2 that is not above it
	return func(yield func(api.Point) bool) {
		for fine := coarsest; fine <= finest; fine *= 2 {
			p := nearest(centre, fine-radius)
			if isLong(p) || p == centre {
				break
			}
			if !yield(p) {
				return
			}
		}
		if !isLong(centre) {
			yield(centre)
		}
	}
}

// nearest is the nearest point of the net that has 2^fine steps where a number grows by 1.
func nearest(p api.Point, fine int) api.Point {
	return api.Point{X: stepped(p.X, power(fine)), Y: stepped(p.Y, power(fine))}
}

// stepped is the nearest number that is a whole one, divided by steps.
func stepped(x api.Rat, steps api.Rat) api.Rat {
	many, _ := rat.Mul(x, steps)
	many, _ = rat.Add(many, power(-1))
	floor, _, _ := whole.Div(many.Num, api.Int{Mag: many.Den})
	out, _ := rat.Div(api.Rat{Num: floor, Den: power(0).Den}, steps)
	return out
}

// power is 2^n.
func power(n int) api.Rat {
	if n < 0 {
		up := power(-n)
		return api.Rat{Num: api.Int{Mag: up.Den}, Den: up.Num.Mag}
	}
	mag := string([]byte{1 << (n % 8)}) + strings.Repeat("\x00", n/8)
	return api.Rat{Num: api.Int{Mag: api.Nat(mag)}, Den: rat.Of(1).Den}
}
