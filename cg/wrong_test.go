package cg_test

import (
	"slices"
	"strings"
	"testing"

	"gusset/api"
	"gusset/cg"
	"gusset/ldl"
	"gusset/rat"
	"gusset/whole"
)

// refused holds that both calls tell an error, and nothing else.
func refused(t *testing.T, name string, s api.System, x []api.Rat, want api.Errno) {
	t.Helper()
	if l, n, e := cg.Solve(s, x); len(l) != 0 || n != 0 || e != want {
		t.Errorf("P20.1: %s: %v, %d, error %d, not %d", name, l, n, e, want)
	}
	if a, e := cg.Energy(s, x); a != (api.Rat{}) || e != want {
		t.Errorf("P20.2: %s: %v, error %d, not %d", name, a, e, want)
	}
}

// long is 1 divided by a number of n bytes, far a whole number of n bytes; both have nothing in common.
func long(n int) api.Rat {
	return api.Rat{Num: whole.Of(1), Den: api.Nat(strings.Repeat("\xff", n))}
}

func far(n int) api.Rat {
	return api.Rat{Num: api.Int{Mag: api.Nat("\x01" + strings.Repeat("\x00", n-1))}, Den: "\x01"}
}

// wrongs are numbers that may not be, though they are short.
func wrongs() []api.Rat {
	return []api.Rat{{}, {Num: whole.Of(4), Den: "\x02"}, {Num: api.Int{Neg: true}, Den: "\x01"}, {Num: whole.Of(1), Den: "\x00\x01"}, {Den: "\x02"}}
}

// TestWrongSystems holds that a system's error is ahead of those of the values.
func TestWrongSystems(t *testing.T) {
	for name, change := range map[string]func(s *api.System){
		"a row less":            func(s *api.System) { s.Rows = s.Rows[:1] },
		"nothing on the right":  func(s *api.System) { s.Right = nil },
		"columns that fall":     func(s *api.System) { s.Rows[0][0], s.Rows[0][1] = s.Rows[0][1], s.Rows[0][0] },
		"a column below 0":      func(s *api.System) { s.Rows[0][0].Col = -1 },
		"sides that differ":     func(s *api.System) { s.Rows[0][1].Val = rat.Of(5) },
		"no number":             func(s *api.System) { s.Rows[0][0].Val = api.Rat{} },
		"too long":              func(s *api.System) { s.Rows[0][0].Val = long(8001) },
		"too long on the right": func(s *api.System) { s.Right[1] = far(8001) },
	} {
		for _, x := range [][]api.Rat{nil, numbers(0, 0), {far(8001), far(8001)}} {
			s := small([][]int{{2, 1}, {1, 2}}, 3, 3)
			change(&s)
			refused(t, name, s, x, api.ErrArg)
		}
	}
	many := api.System{Rows: make([][]api.Entry, 401), Right: slices.Repeat(numbers(1), 401)}
	refused(t, "401 rows", many, many.Right, api.ErrLimit)
	refused(t, "401 rows, and no values", many, nil, api.ErrLimit)
	refused(t, "401 numbers", api.System{Right: many.Right}, []api.Rat{{}}, api.ErrLimit)
}

// TestWrongValues asks with too few values, too many, and such as may not be: the first one's error is told, ahead of what the matrix is.
func TestWrongValues(t *testing.T) {
	for _, s := range []api.System{small([][]int{{2, 1}, {1, 2}}, 3, 3), small([][]int{{1, 2}, {2, 1}}, 3, 3), small([][]int{{0, 0}, {0, 0}}, 0, 0)} {
		for n := range 5 {
			for _, v := range append(wrongs(), rat.Of(1), far(8001)) {
				if n != 2 {
					refused(t, "a wrong count", s, slices.Repeat([]api.Rat{v}, n), api.ErrArg)
				}
			}
		}
		for _, w := range wrongs() {
			refused(t, "a wrong first value", s, []api.Rat{w, rat.Of(1)}, api.ErrArg)
			refused(t, "a wrong second value", s, []api.Rat{rat.Of(1), w}, api.ErrArg)
			refused(t, "a wrong value, and a long one", s, []api.Rat{w, far(8001)}, api.ErrArg)
			refused(t, "a long value, and a wrong one", s, []api.Rat{long(8001), w}, api.ErrLimit)
		}
		refused(t, "a long value", s, []api.Rat{rat.Of(1), far(8001)}, api.ErrLimit)
	}
}

// TestNotPositive holds that a system that is not positive definite is not solved, not even from values on that solve it; it has an energy all the same.
func TestNotPositive(t *testing.T) {
	for i, s := range []api.System{
		small([][]int{{1, 2}, {2, 1}}, 3, 3), small([][]int{{1, 1}, {1, 1}}, 2, 2), small([][]int{{0, 0}, {0, 0}}, 0, 0),
		small([][]int{{-1, 0}, {0, -1}}, -1, -1), small([][]int{{0, 1}, {1, 0}}, 1, 1), small([][]int{{2, 0}, {0, 0}}, 2, 0),
	} {
		for _, start := range [][]api.Rat{numbers(0, 0), numbers(1, 1), numbers(5, -3)} {
			if x, n, e := cg.Solve(s, start); len(x) != 0 || n != 0 || e != api.ErrSolve {
				t.Errorf("P20.1: case %d: %v, %d, error %d", i, x, n, e)
			}
			if a, e := cg.Energy(s, start); a != wantEnergy(s, start) || e != api.OK {
				t.Errorf("P20.2: case %d: %v, error %d", i, a, e)
			}
		}
	}
}

// TestTooLong asks about numbers that get too long on the way, and about long ones that do not.
func TestTooLong(t *testing.T) {
	r := random()
	s := heavy(r, 9, 12, 100)
	if x, n, e := cg.Solve(s, values(r, 9, 12)); len(x) != 0 || n != 0 || e != api.ErrLimit {
		t.Errorf("R7: %d values, %d steps, error %d", len(x), n, e)
	}
	solved, e := ldl.Solve(s)
	must(t, e)
	if x, n, e := cg.Solve(s, solved); !slices.Equal(x, solved) || n != 0 || e != api.OK {
		t.Errorf("P20.3: %d values, %d steps, error %d", len(x), n, e)
	}
	one := api.System{Rows: [][]api.Entry{{{Col: 0, Val: long(7000)}}}, Right: []api.Rat{far(7000)}}
	if x, n, e := cg.Solve(one, numbers(0)); len(x) != 0 || n != 0 || e != api.ErrLimit {
		t.Errorf("R7: %d values, %d steps, error %d", len(x), n, e)
	}
	if a, e := cg.Energy(one, []api.Rat{far(7000)}); a != (api.Rat{}) || e != api.ErrLimit {
		t.Errorf("R7: error %d", e)
	}
	apart, values := api.System{}, []api.Rat(nil)
	for i := range 400 { // the values have no short denominator together
		apart.Rows = append(apart.Rows, []api.Entry{{Col: i, Val: rat.Of(1 + i)}})
		apart.Right = append(apart.Right, long(1+i))
		values = append(values, ratOf(over(bigOf(long(1+i)), bigOf(rat.Of(1+i)))))
	}
	if x, n, e := cg.Solve(apart, values); !slices.Equal(x, values) || n != 0 || e != api.OK {
		t.Errorf("P20.3: %d values, %d steps, error %d", len(x), n, e)
	}
	apart.Rows[0][0].Val = rat.Of(-1)
	if x, n, e := cg.Solve(apart, numbers(slices.Repeat([]int{0}, 400)...)); len(x) != 0 || n != 0 || e != api.ErrSolve {
		t.Errorf("P20.1: %d values, %d steps, error %d", len(x), n, e)
	}
}
