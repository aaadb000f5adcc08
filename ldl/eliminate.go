package ldl

import (
	"maps"
	"slices"

	"gusset/api"
	"gusset/lowest"
	"gusset/rat"
	"gusset/short"
)

// row is an unknown's equation while it waits: factor, which is above 0, times nums, by columns, without noughts; and the right side. Unknowns are told by when it is their turn, and of the columns only the unknown's own and those behind it are kept: as the matrix is symmetric, what stands ahead of them stands in other rows, too.
type row struct {
	factor api.Rat
	nums   map[int]api.Int
	right  api.Rat
}

// leaving is what an unknown leaves behind: once the values of all unknowns behind it are there, it puts its own one to them.
type leaving func(values []api.Rat)

// eliminate takes one unknown after the other out of the equations of those behind it, and tells what each leaves behind. What a positive definite matrix leaves is positive definite again, and its diagonal above 0; and if that is above 0 up to the end, the matrix was positive definite.
func eliminate(s api.System) []leaving {
	turns := order(s.Rows)
	waiting := rowsOf(s, turns)
	out := make([]leaving, len(turns))
	for i, unknown := range turns {
		gone := waiting[i]
		delete(waiting, i)
		behind := gone.columns()[1:]
		for at, k := range behind {
			waiting[k] = waiting[k].less(gone, i, behind[at:])
		}
		out[i] = func(values []api.Rat) {
			known := make([]api.Rat, len(behind))
			for at, k := range behind {
				known[at] = values[turns[k]]
			}
			values[unknown] = gone.value(i, behind, known)
		}
	}
	return out
}

// values are those of all unknowns: the last one to leave is told first.
func values(left []leaving) []api.Rat {
	out := make([]api.Rat, len(left))
	for _, put := range slices.Backward(left) {
		put(out)
	}
	return out
}

// rowsOf are a system's equations, by the unknowns' turns. The signs of the diagonal are asked ahead of all else, as they are at hand.
func rowsOf(s api.System, turns []int) map[int]row {
	place := make([]int, len(turns))
	for at, unknown := range turns {
		own := func(e api.Entry) bool { return e.Col == unknown && !e.Val.Num.Neg }
		if !slices.ContainsFunc(s.Rows[unknown], own) {
			panic(notPositive{})
		}
		place[unknown] = at
	}
	out := make(map[int]row, len(turns))
	for at, unknown := range turns {
		cols, vals := []int(nil), []api.Rat(nil)
		for _, e := range s.Rows[unknown] {
			if place[e.Col] >= at {
				cols, vals = append(cols, place[e.Col]), append(vals, e.Val)
			}
		}
		out[at] = rowOf(cols, lowest.Of(vals), s.Right[unknown])
	}
	return out
}

// rowOf is an equation of numbers in columns.
func rowOf(cols []int, numbers lowest.Row, right api.Rat) row {
	out := row{factor: numbers.Factor, nums: make(map[int]api.Int, len(cols)), right: right}
	for at, n := range numbers.Nums {
		if n.Mag != "" {
			out.nums[cols[at]] = n
		}
	}
	return out
}

// columns are a row's, and more ones: rising, each once.
func (r row) columns(more ...int) []int {
	out := slices.AppendSeq(slices.Clone(more), maps.Keys(r.nums))
	slices.Sort(out)
	return slices.Compact(out)
}

// in is what a row has in columns.
func (r row) in(cols []int) lowest.Row {
	out := lowest.Row{Factor: r.factor, Nums: make([]api.Int, len(cols))}
	for at, col := range cols {
		out.Nums[at] = r.nums[col]
	}
	return out
}

// less is a row less as much of that of unknown i, who is gone, as takes i out of it; behind is the columns of the latter from the row's own unknown on.
func (r row) less(gone row, i int, behind []int) row {
	own := behind[0]
	share := ratio(gone.nums[own], gone.nums[i])
	share.Num.Neg = !share.Num.Neg
	cols := r.columns(behind...)
	right := short.Add(r.right, short.Mul(share, gone.right))
	out := rowOf(cols, r.in(cols).Plus(share, gone.in(cols)), right)
	if n, found := out.nums[own]; !found || n.Neg {
		panic(notPositive{})
	}
	return out
}

// value is that of a row's own unknown, if those in the columns behind are known.
func (r row) value(own int, behind []int, known []api.Rat) api.Rat {
	left := short.Sub(r.right, r.in(behind).Dot(lowest.Of(known)))
	return short.Div(left, short.Mul(r.factor, ratio(r.nums[own], api.Int{Mag: "\x01"})))
}

// ratio is a whole number divided by one above 0.
func ratio(a api.Int, b api.Int) api.Rat {
	out, _ := rat.Make(a, b)
	return out
}
