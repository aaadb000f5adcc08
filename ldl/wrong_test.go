package ldl_test

import (
	"math"
	"slices"
	"strings"
	"testing"

	"gusset/api"
	"gusset/ldl"
	"gusset/rat"
	"gusset/whole"
)

// refused holds that all calls tell the error of a system, and nothing else.
func refused(t *testing.T, name string, s api.System, want api.Errno) {
	t.Helper()
	if is, e := ldl.Positive(s); is || e != want {
		t.Errorf("P19.1: %s: %v, error %d, not %d", name, is, e, want)
	}
	if l, e := ldl.Order(s); len(l) != 0 || e != want {
		t.Errorf("P19.2: %s: %v, error %d, not %d", name, l, e, want)
	}
	if x, e := ldl.Solve(s); len(x) != 0 || e != want {
		t.Errorf("P19.3: %s: %v, error %d, not %d", name, x, e, want)
	}
}

// long is 1 divided by a number of n bytes, far a whole number of n bytes; both have nothing in common.
func long(n int) api.Rat {
	return api.Rat{Num: whole.Of(1), Den: api.Nat(strings.Repeat("\xff", n))}
}

func far(n int) api.Rat {
	return api.Rat{Num: api.Int{Mag: api.Nat("\x01" + strings.Repeat("\x00", n-1))}, Den: "\x01"}
}

// TestWrongSystems changes a system that is positive definite, and one that is not: what may not be is told ahead of that.
func TestWrongSystems(t *testing.T) {
	entry := func(col, n int) api.Entry { return api.Entry{Col: col, Val: rat.Of(n)} }
	for name, change := range map[string]func(s *api.System){
		"a row less":           func(s *api.System) { s.Rows = s.Rows[:2] },
		"a row more":           func(s *api.System) { s.Rows = append(s.Rows, nil) },
		"nothing on the right": func(s *api.System) { s.Right = nil },
		"no rows":              func(s *api.System) { s.Rows = nil },
		"columns that fall":    func(s *api.System) { s.Rows[0][0], s.Rows[0][1] = s.Rows[0][1], s.Rows[0][0] },
		"a column twice":       func(s *api.System) { s.Rows[2] = append(s.Rows[2], entry(2, 1)) },
		"a column of no row":   func(s *api.System) { s.Rows[2] = append(s.Rows[2], entry(3, 1)) },
		"a column far away":    func(s *api.System) { s.Rows[2][1].Col = math.MaxInt },
		"a column below 0":     func(s *api.System) { s.Rows[0][0].Col = math.MinInt },
		"one side alone":       func(s *api.System) { s.Rows[0] = s.Rows[0][:1] },
		"sides that differ":    func(s *api.System) { s.Rows[0][1].Val = rat.Of(5) },
		"a 0":                  func(s *api.System) { s.Rows[0][0].Val = rat.Of(0) },
		"no number":            func(s *api.System) { s.Rows[0][0].Val = api.Rat{} },
		"one that can be cut":  func(s *api.System) { s.Rows[0][0].Val = api.Rat{Num: whole.Of(4), Den: "\x02"} },
		"no number on the right": func(s *api.System) {
			s.Right[1] = api.Rat{}
		},
		"too long":              func(s *api.System) { s.Rows[0][0].Val = long(8001) },
		"too long on the right": func(s *api.System) { s.Right[2] = far(8001) },
	} {
		for _, own := range []int{4, -4} {
			s := small([][]int{{own, 1, 0}, {1, 4, -1}, {0, -1, 4}}, 1, 2, 3)
			change(&s)
			refused(t, name, s, api.ErrArg)
		}
	}
	many := api.System{Rows: make([][]api.Entry, 401), Right: slices.Repeat([]api.Rat{rat.Of(1)}, 401)}
	refused(t, "401 rows", many, api.ErrLimit)
	refused(t, "401 rows, and few numbers", api.System{Rows: many.Rows, Right: many.Right[:2]}, api.ErrLimit)
	refused(t, "401 numbers", api.System{Right: many.Right}, api.ErrLimit)
	many = api.System{Rows: make([][]api.Entry, 400), Right: slices.Repeat([]api.Rat{rat.Of(1)}, 400)}
	if x, e := ldl.Solve(many); len(x) != 0 || e != api.ErrSolve {
		t.Errorf("P19.3: 400 rows of nothing: %v, error %d", x, e)
	}
	if l, e := ldl.Order(many); len(l) != 400 || !slices.IsSorted(l) || e != api.OK {
		t.Errorf("P19.2: 400 rows of nothing: %v, error %d", l, e)
	}
}

// TestTooLong asks about numbers that get too long on the way, and about long ones that do not.
func TestTooLong(t *testing.T) {
	r := random()
	s := heavy(r, 12, 200, 100)
	if is, e := ldl.Positive(s); is || e != api.ErrLimit {
		t.Errorf("R7: %v, error %d", is, e)
	}
	if x, e := ldl.Solve(s); len(x) != 0 || e != api.ErrLimit {
		t.Errorf("R7: %d values, error %d", len(x), e)
	}
	if l, e := ldl.Order(s); !slices.Equal(l, wantOrder(s)) || e != api.OK {
		t.Errorf("P19.2: %v, error %d", l, e)
	}
	two := small([][]int{{2, 1}, {1, 2}}, 0, 0)
	two.Right = []api.Rat{far(5000), long(5000)}
	if is, e := ldl.Positive(two); !is || e != api.OK {
		t.Errorf("P19.1: the right side is not asked: %v, error %d", is, e)
	}
	if x, e := ldl.Solve(two); len(x) != 0 || e != api.ErrLimit {
		t.Errorf("R7: %d values, error %d", len(x), e)
	}
	one := api.System{Rows: [][]api.Entry{{{Col: 0, Val: long(8000)}}}, Right: []api.Rat{far(8000)}}
	if is, e := ldl.Positive(one); !is || e != api.OK {
		t.Errorf("P19.1: %v, error %d", is, e)
	}
	if x, e := ldl.Solve(one); len(x) != 0 || e != api.ErrLimit {
		t.Errorf("R7: %d values, error %d", len(x), e)
	}
	one.Right[0] = long(8000)
	if x, e := ldl.Solve(one); !slices.Equal(x, []api.Rat{rat.Of(1)}) || e != api.OK {
		t.Errorf("P19.3: %d values, error %d", len(x), e)
	}
	apart := api.System{}
	for i := range 400 { // no row has to do with another: none gets longer
		apart.Rows = append(apart.Rows, []api.Entry{{Col: i, Val: ratOf(plus(bigOf(long(100)), bigOf(far(1+i%20))))}})
		apart.Right = append(apart.Right, long(100+i))
	}
	if is, e := ldl.Positive(apart); !is || e != api.OK {
		t.Errorf("P19.1: %v, error %d", is, e)
	}
	if x, e := ldl.Solve(apart); !leavesNothing(apart, x) || e != api.OK {
		t.Errorf("P19.3: %d values, error %d", len(x), e)
	}
	hold(t, heavy(r, 2, 900, 100))
	hold(t, heavy(r, 30, 40, 2))
}
