package ldl

import (
	"math/bits"

	"gusset/api"
)

// group is some of the unknowns: a bit for each.
type group [(api.MaxVerts + 63) / 64]uint64

// with is a group, and one more.
func (g group) with(i int) group {
	g[i/64] |= 1 << (i % 64)
	return g
}

// without is a group less one.
func (g group) without(i int) group {
	g[i/64] &^= 1 << (i % 64)
	return g
}

// has tells whether one is in a group.
func (g group) has(i int) bool { return g[i/64]>>(i%64)&1 != 0 }

// joined is all that are in either of two groups.
func (g group) joined(o group) group {
	for i, word := range o {
		g[i] |= word
	}
	return g
}

// count is how many there are.
func (g group) count() int {
	n := 0
	for _, word := range g {
		n += bits.OnesCount64(word)
	}
	return n
}

// order is the unknowns in the order of least degree. Neighbours that are gone are taken out of all groups at once, so that what is left of each group is its degree.
func order(rows [][]api.Entry) []int {
	near, left := neighbours(rows)
	out := make([]int, 0, len(rows))
	for range rows {
		next := fewest(near, left)
		left = left.without(next)
		out = append(out, next)
		for i := range near {
			if near[next].has(i) {
				near[i] = near[i].joined(near[next]).without(i).without(next)
			}
		}
	}
	return out
}

// neighbours are those of each unknown, and all unknowns.
func neighbours(rows [][]api.Entry) ([]group, group) {
	near, all := make([]group, len(rows)), group{}
	for i, entries := range rows {
		all = all.with(i)
		for _, e := range entries {
			near[i] = near[i].with(e.Col)
		}
		near[i] = near[i].without(i)
	}
	return near, all
}

// fewest is the unknown of those left that has the fewest neighbours, of such the least number.
func fewest(near []group, left group) int {
	best, least := 0, len(near)
	for i, g := range near {
		if n := g.count(); left.has(i) && n < least {
			best, least = i, n
		}
	}
	return best
}
