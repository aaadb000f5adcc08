package system

import (
	"cmp"
	"slices"

	"gusset/api"
	"gusset/rat"
)

// rise tells whether the columns of each row rise, and are numbers of rows.
func rise(rows [][]api.Entry) bool {
	for _, entries := range rows {
		last := -1
		for _, e := range entries {
			if e.Col <= last || e.Col >= len(rows) {
				return false
			}
			last = e.Col
		}
	}
	return true
}

// symmetric tells whether each entry stands on the other side, too, if the rows rise.
func symmetric(rows [][]api.Entry) bool {
	for i, entries := range rows {
		for _, e := range entries {
			val, found := lookUp(rows[e.Col], i)
			if !found || val != e.Val {
				return false
			}
		}
	}
	return true
}

// lookUp is the number in a column of a row that rises, if there is one.
func lookUp(entries []api.Entry, col int) (api.Rat, bool) {
	at, found := slices.BinarySearchFunc(entries, col, func(e api.Entry, col int) int { return cmp.Compare(e.Col, col) })
	if !found {
		return api.Rat{}, false
	}
	return entries[at].Val, true
}

// mayBe tells whether the numbers of a symmetric system may be, and none of the matrix is 0. One side of it tells of the other.
func mayBe(s api.System) bool {
	for i, entries := range s.Rows {
		for _, e := range entries {
			if e.Col >= i && (isZero(e.Val) || rat.Check(e.Val) != api.OK) {
				return false
			}
		}
	}
	for _, b := range s.Right {
		if rat.Check(b) != api.OK {
			return false
		}
	}
	return true
}

// isZero tells whether a number is 0, if it may be.
func isZero(a api.Rat) bool { return a.Num.Mag == "" }
