package long

import (
	"slices"

	"gusset/api"
)

// bundle is how many bytes dens have at most that are put together.
const bundle = 2000

// Part is a whole number, divided by all of its dens. Each of these is above 0, and has at most 16000 bytes.
type Part struct {
	num  api.Int
	dens []api.Nat // ranged as texts are, without any that is 1
}

// Product is the product of numbers in their lowest terms, whose denominators have at most 16000 bytes.
func Product(l ...api.Rat) Part {
	out := Part{num: api.Int{Mag: one}}
	for _, a := range l {
		out.num = Mul(out.num, a.Num)
		if a.Den != one {
			out.dens = append(out.dens, a.Den)
		}
	}
	slices.Sort(out.dens)
	return out
}

// Negated is a part with its sign turned.
func (p Part) Negated() Part {
	p.num.Neg = p.num.Mag != "" && !p.num.Neg
	return p
}

// Sum is the sum of parts in its lowest terms, 0 of none.
func Sum(l ...Part) api.Rat {
	sum := gathered(l, Part{}, plus)
	return Over(sum.num, bundled(sum.dens)...)
}

// gathered puts many things together by halves, so that long ones come together late and seldom.
func gathered[T any](l []T, none T, both func(T, T) T) T {
	switch len(l) {
	case 0:
		return none
	case 1:
		return l[0]
	}
	half := len(l) / 2
	return both(gathered(l[:half], none, both), gathered(l[half:], none, both))
}

// plus is the sum of two parts. What stands below both is held against each other text by text: so dens that many parts have are there but once, and no divisors of long numbers are asked for.
func plus(a Part, b Part) Part {
	all, lackA, lackB := united(a.dens, b.dens)
	num := Add(Mul(a.num, api.Int{Mag: lackA}), Mul(b.num, api.Int{Mag: lackB}))
	return Part{num, all}
}

// united is all dens of two ranged rows, those of both once; and the products of what either lacks.
func united(a []api.Nat, b []api.Nat) ([]api.Nat, api.Nat, api.Nat) {
	all, onlyA, onlyB := []api.Nat(nil), []api.Nat(nil), []api.Nat(nil)
	for len(a) > 0 && len(b) > 0 {
		switch {
		case a[0] < b[0]:
			all, onlyA, a = append(all, a[0]), append(onlyA, a[0]), a[1:]
		case b[0] < a[0]:
			all, onlyB, b = append(all, b[0]), append(onlyB, b[0]), b[1:]
		default:
			all, a, b = append(all, a[0]), a[1:], b[1:]
		}
	}
	all = append(append(all, a...), b...)
	return all, gathered(append(onlyB, b...), one, mul), gathered(append(onlyA, a...), one, mul)
}

// bundled is dens put together to fewer ones, which are not long yet: a long number is divided by few of them sooner than by many.
func bundled(dens []api.Nat) []api.Nat {
	out := []api.Nat(nil)
	for _, d := range dens {
		last := len(out) - 1
		if last >= 0 && len(out[last])+len(d) <= bundle {
			out[last] = mul(out[last], d)
			continue
		}
		out = append(out, d)
	}
	return out
}
