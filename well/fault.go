package well

import (
	"slices"

	"gusset/api"
)

// fault is what a rule tells: a kind of error (OK, if the rule is not broken), and two numbers, of those that break it.
type fault struct {
	kind   api.Errno
	first  int
	second int
}

// single finds the first item that is wrong.
func single[T any](kind api.Errno, l []T, wrong func(T) bool) fault {
	if i := slices.IndexFunc(l, wrong); i >= 0 {
		return fault{kind: kind, first: i}
	}
	return fault{}
}

// pair finds the first pair that is wrong: of an item and one of those that are held against it, by the item's place.
func pair[A, B any](kind api.Errno, l []A, against func(int) []B, wrong func(A, B) bool) fault {
	for i, a := range l {
		for j, b := range against(i) {
			if wrong(a, b) {
				return fault{kind, i, j}
			}
		}
	}
	return fault{}
}

// ahead holds each item against those ahead of it, so that of two the greater number is the first.
func ahead[T any](l []T) func(int) []T {
	return func(i int) []T { return l[:i] }
}

// every holds each item against all of another list.
func every[T any](l []T) func(int) []T {
	return func(int) []T { return l }
}
