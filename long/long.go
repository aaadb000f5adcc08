// Package long reckons with whole numbers of any length: package whole takes no more than 32000 bytes, and what is reckoned from a few numbers that may be handed in can be longer on its way. Longer numbers are parted, and their parts are handed to package whole.
//
// Numbers are in their one form (chapters 1 and 2 of the document) but for their length; what is answered is so too. There are no errors then.
package long

import (
	"strings"

	"gusset/api"
	"gusset/whole"
)

// most is how many bytes a number may have for package whole; piece is how many bytes the low part has that longer ones are parted with: two of them are not too long yet.
const (
	most  = 8 * api.MaxLimbs
	piece = most / 2
)

// one is the Nat 1.
const one api.Nat = "\x01"

// Add is the sum of two.
func Add(a api.Int, b api.Int) api.Int {
	switch {
	case a.Neg == b.Neg:
		return api.Int{Neg: a.Neg, Mag: add(a.Mag, b.Mag)}
	case a.Mag == b.Mag:
		return api.Int{}
	case less(a.Mag, b.Mag):
		a, b = b, a
	}
	return api.Int{Neg: a.Neg, Mag: sub(a.Mag, b.Mag)}
}

// Sub is a less b.
func Sub(a api.Int, b api.Int) api.Int {
	b.Neg = b.Mag != "" && !b.Neg
	return Add(a, b)
}

// Mul is the product of two.
func Mul(a api.Int, b api.Int) api.Int {
	mag := mul(a.Mag, b.Mag)
	return api.Int{Neg: mag != "" && a.Neg != b.Neg, Mag: mag}
}

// Over is n divided by all of dens, in its lowest terms. Each of dens is above 0, and has at most 16000 bytes. As they come one by one, no divisors of long numbers are asked for.
func Over(n api.Int, dens ...api.Nat) api.Rat {
	den := one
	for _, d := range dens {
		if d == one {
			continue
		}
		_, rest := divide(n.Mag, d)
		common, _ := whole.Gcd(api.Int{Mag: rest}, api.Int{Mag: d})
		if common.Mag != one {
			n.Mag, _ = divide(n.Mag, common.Mag)
			d, _ = divide(d, common.Mag)
		}
		den = mul(den, d)
	}
	return api.Rat{Num: n, Den: den}
}

// less tells whether a is less than b: bytes of one length are ranged as their numbers are.
func less(a api.Nat, b api.Nat) bool {
	if len(a) != len(b) {
		return len(a) < len(b)
	}
	return a < b
}

// add is the sum of two Nats.
func add(a api.Nat, b api.Nat) api.Nat {
	if max(len(a), len(b)) <= most {
		sum, _ := whole.Add(api.Int{Mag: a}, api.Int{Mag: b})
		return sum.Mag
	}
	highA, lowA := part(a, piece)
	highB, lowB := part(b, piece)
	carry, low := part(add(lowA, lowB), piece)
	return join(add(add(highA, highB), carry), low, piece)
}

// sub takes b from a, which is not less.
func sub(a api.Nat, b api.Nat) api.Nat {
	if len(a) <= most {
		left, _ := whole.Sub(api.Int{Mag: a}, api.Int{Mag: b})
		return left.Mag
	}
	highA, lowA := part(a, piece)
	highB, lowB := part(b, piece)
	high := sub(highA, highB)
	if less(lowA, lowB) { // one of the high part is broken into the low one
		high = sub(high, one)
		lowA = join(one, lowA, piece)
	}
	return join(high, sub(lowA, lowB), piece)
}

// mul is the product of two Nats. A factor 1 is frequent (it is the denominator of every whole number), and costs nothing.
func mul(a api.Nat, b api.Nat) api.Nat {
	if len(a) < len(b) {
		a, b = b, a
	}
	if b == one {
		return a
	}
	if len(a) <= most {
		out, _ := whole.Mul(api.Int{Mag: a}, api.Int{Mag: b})
		return out.Mag
	}
	half := len(a) / 2
	high, low := part(a, half)
	return add(join(mul(high, b), "", half), mul(low, b))
}

// divide is the quotient of two Nats, rounded down, and the rest; b is above 0, and has at most 16000 bytes.
func divide(a api.Nat, b api.Nat) (api.Nat, api.Nat) {
	if len(a) <= most {
		quotient, rest, _ := whole.Div(api.Int{Mag: a}, api.Int{Mag: b})
		return quotient.Mag, rest.Mag
	}
	high, low := part(a, piece)
	high, rest := divide(high, b)
	low, rest = divide(join(rest, low, piece), b)
	return join(high, low, piece), rest
}

// part cuts the low bytes from a Nat, as many as told: both parts are Nats again.
func part(n api.Nat, low int) (api.Nat, api.Nat) {
	at := max(len(n)-low, 0)
	return n[:at], api.Nat(strings.TrimLeft(string(n[at:]), "\x00"))
}

// join is what part has cut: the low part has as many bytes as told at most.
func join(high api.Nat, low api.Nat, n int) api.Nat {
	if high == "" {
		return low
	}
	return high + api.Nat(strings.Repeat("\x00", n-len(low))) + low
}
