// Package short reckons with numbers that stay short enough to be handed on: chapter 3 of the document lets them have 8000 bytes above the stroke and below it, and rule R7 lets one give up where a number on the way has more. One gives up by a panic, from wherever one is, and Answer catches it at the face of a layer.
package short

import (
	"gusset/api"
	"gusset/rat"
)

// maxBytes is how many bytes Num's Mag and Den may have.
const maxBytes = 8000

// givenUp is what goes up where a number is too long.
type givenUp struct{}

// Answer is what work makes, or ErrLimit, if it gave up.
func Answer[T any](work func() T) (out T, e api.Errno) {
	defer func() {
		thrown := recover()
		if thrown == nil {
			return
		}
		if _, ours := thrown.(givenUp); !ours {
			panic(thrown)
		}
		e = api.ErrLimit
	}()
	return work(), api.OK
}

// Fit is the number itself, if it is short enough; else it gives up.
func Fit(a api.Rat) api.Rat {
	if len(a.Num.Mag) > maxBytes || len(a.Den) > maxBytes {
		panic(givenUp{})
	}
	return a
}

// Whole is the whole number itself, if it is short enough; else it gives up.
func Whole(n api.Int) api.Int {
	if len(n.Mag) > maxBytes {
		panic(givenUp{})
	}
	return n
}

// Told is what a lower layer has told of numbers, if none of them was too long; else it gives up. (No other error comes of what may be asked.)
func Told[T any](out T, e api.Errno) T {
	if e != api.OK {
		panic(givenUp{})
	}
	return out
}

// kept is what package rat has made, if it could, and if that is short enough.
func kept(a api.Rat, e api.Errno) api.Rat { return Fit(Told(a, e)) }

// Add is the sum of two numbers that may be.
func Add(a api.Rat, b api.Rat) api.Rat { return kept(rat.Add(a, b)) }

// Sub is a less b, which may be.
func Sub(a api.Rat, b api.Rat) api.Rat { return kept(rat.Sub(a, b)) }

// Mul is the product of two numbers that may be.
func Mul(a api.Rat, b api.Rat) api.Rat { return kept(rat.Mul(a, b)) }

// Div is a divided by b, which may be, and is not 0.
func Div(a api.Rat, b api.Rat) api.Rat { return kept(rat.Div(a, b)) }

// Sum is the sum of what each thing of a list counts, 0 of none. It is made by halves, so that long numbers come together late and seldom.
func Sum[T any](l []T, count func(T) api.Rat) api.Rat {
	switch len(l) {
	case 0:
		return rat.Of(0)
	case 1:
		return Fit(count(l[0]))
	}
	half := len(l) / 2
	return Add(Sum(l[:half], count), Sum(l[half:], count))
}
