package cg_test

import (
	"math/big"
	"slices"
	"testing"

	"gusset/api"
	"gusset/cg"
	"gusset/ldl"
	"gusset/rat"
)

// hold asks both calls about a positive definite system, and a start; and tells how many steps there are.
func hold(t *testing.T, s api.System, start []api.Rat) int {
	t.Helper()
	given, givenStart := cloned(s), slices.Clone(start)
	want, count := wantSolve(s, start)
	x, n, e := cg.Solve(s, start)
	if !slices.Equal(x, want) || n != count || e != api.OK {
		t.Fatalf("P20.1: %v from %v: %v, %d, error %d, not %v, %d", s, start, x, n, e, want, count)
	}
	if y, e := ldl.Solve(s); !slices.Equal(x, y) || e != api.OK {
		t.Fatalf("P20.1: %v from %v: %v, not %v, error %d", s, start, x, y, e)
	}
	if n > len(s.Rows) {
		t.Fatalf("P20.3: %d steps, %d rows", n, len(s.Rows))
	}
	if y, n, e := cg.Solve(s, x); !slices.Equal(x, y) || n != 0 || e != api.OK {
		t.Fatalf("P20.3: from the values themselves on: %v, %d steps, error %d", y, n, e)
	}
	if a, e := cg.Energy(s, start); a != wantEnergy(s, start) || e != api.OK {
		t.Fatalf("P20.2: %v, not %v, error %d", a, wantEnergy(s, start), e)
	}
	if !sameSystem(s, given) || !slices.Equal(start, givenStart) {
		t.Fatal("R5: what was handed in is changed")
	}
	return n
}

func TestExamples(t *testing.T) {
	s := small([][]int{{2, 1}, {1, 2}}, 3, 3)
	third := ratOf(big.NewRat(-1, 3))
	for i, c := range []struct {
		s     api.System
		start []api.Rat
		n     int
	}{
		{s, numbers(0, 0), 1}, {s, numbers(1, 1), 0}, {s, numbers(1, 0), 2}, {s, []api.Rat{rat.Of(5), third}, 2}, {s, numbers(2, 0), 1}, {s, numbers(9, 9), 1},
		{api.System{}, nil, 0}, {small([][]int{{4}}, 7), numbers(-3), 1}, {small([][]int{{4}}, 8), numbers(2), 0},
		{small([][]int{{4, -1, 0}, {-1, 4, -1}, {0, -1, 4}}, 1, 2, 3), numbers(0, 0, 0), 3}, {small([][]int{{4, -1, 0}, {-1, 4, -1}, {0, -1, 4}}, 1, 0, -1), numbers(0, 0, 0), 1},
		{small([][]int{{4, -1, 0}, {-1, 4, -1}, {0, -1, 4}}, 1, 0, 1), numbers(0, 0, 0), 2}, {small([][]int{{1, 0, 0}, {0, 1, 0}, {0, 0, 1}}, 5, 6, 7), numbers(1, 2, -3), 1},
		{small([][]int{{1, 0, 0}, {0, 2, 0}, {0, 0, 3}}, 5, 6, 7), numbers(1, 2, -3), 3}, {small([][]int{{1, 0, 0}, {0, 2, 0}, {0, 0, 3}}, 5, 6, 7), numbers(1, 3, -3), 2},
		{small([][]int{{1, 0, 0}, {0, 2, 0}, {0, 0, 2}}, 5, 6, 7), numbers(1, 2, -3), 2}, {small([][]int{{1, 0}, {0, 1}}, 0, 0), numbers(0, 0), 0},
	} {
		if n := hold(t, c.s, c.start); n != c.n {
			t.Errorf("P20.1: case %d: %d steps", i, n)
		}
	}
	for i, c := range []struct {
		x    []api.Rat
		want api.Rat
	}{{numbers(1, 1), rat.Of(-3)}, {numbers(0, 0), rat.Of(0)}, {numbers(1, 0), rat.Of(-2)}, {[]api.Rat{third, rat.Of(0)}, ratOf(big.NewRat(10, 9))}} {
		if a, e := cg.Energy(s, c.x); a != c.want || e != api.OK {
			t.Errorf("P20.2: case %d: %v, error %d", i, a, e)
		}
	}
	if a, e := cg.Energy(api.System{}, nil); a != rat.Of(0) || e != api.OK {
		t.Errorf("P20.2: of nothing: %v, error %d", a, e)
	}
}

// TestWithinR7 asks about 4 rows at most, and 3 bytes in each number: of those there is always an answer.
func TestWithinR7(t *testing.T) {
	r := random()
	for i := range 240 {
		n, bytes := i%5, 1+i%3
		hold(t, heavy(r, n, bytes, 25*(i%5)), values(r, n, bytes))
	}
	for range 60 {
		if n := hold(t, heavy(r, 4, 3, 100), values(r, 4, 3)); n != 4 {
			t.Errorf("%d steps: fewer than there may be", n)
		}
	}
}

// TestLongerOnes asks about more rows, and longer numbers, than those of which there must be an answer.
func TestLongerOnes(t *testing.T) {
	r := random()
	for i := range 20 {
		hold(t, heavy(r, 6, 1, 60), values(r, 6, 1+i%4))
		hold(t, heavy(r, 3, 20, 100), values(r, 3, 30))
		hold(t, heavy(r, 1, 200+i, 100), values(r, 1, 300))
	}
}

// TestFewSteps asks about 400 rows that are the same two again and again: there are no more steps than for two.
func TestFewSteps(t *testing.T) {
	m, right := zeros(400), []api.Rat(nil)
	for i := range m {
		m[i][i].SetInt64(3)
		m[i][i^1].SetInt64(1)
		right = append(right, rat.Of(i*i%23-7))
	}
	if n := hold(t, systemOf(m, right), slices.Repeat(numbers(0), 400)); n != 2 {
		t.Errorf("P20.1: 400 rows: %d steps", n)
	}
}

// TestEnergyWithinR7 asks for the energy with 5 rows at most, and 6 bytes in each number, whatever the matrix is.
func TestEnergyWithinR7(t *testing.T) {
	r := random()
	for i := range 200 {
		n, bytes := i%6, 1+i%6
		s, x := heavy(r, n, bytes, 100), values(r, n, bytes)
		if i%3 == 0 && n > 0 {
			s.Rows[0][0].Val.Num.Neg = true
		}
		if a, e := cg.Energy(s, x); a != wantEnergy(s, x) || e != api.OK {
			t.Fatalf("P20.2: %v, %v: %v, error %d", s, x, a, e)
		}
	}
}

// TestLeastEnergy holds that no values have less energy than those that solve a system.
func TestLeastEnergy(t *testing.T) {
	r := random()
	for i := range 60 {
		s := heavy(r, 1+i%6, 1+i%2, 50)
		x, e := ldl.Solve(s)
		must(t, e)
		least, e := cg.Energy(s, x)
		must(t, e)
		for k := range x {
			for _, step := range []*big.Rat{fraction(r, 1), fraction(r, 3), new(big.Rat).SetFrac64(1, 1<<40), new(big.Rat).SetFrac64(-1, 1<<40)} {
				other := slices.Clone(x)
				other[k] = ratOf(plus(bigOf(x[k]), step))
				if a, e := cg.Energy(s, other); e != api.OK || bigOf(a).Cmp(bigOf(least)) <= 0 {
					t.Errorf("P20.3: %v has %v, and %v has %v, error %d", x, least, other, a, e)
				}
			}
		}
	}
}

// TestNewMemory holds that what is answered is new, and the same when it is asked again.
func TestNewMemory(t *testing.T) {
	r := random()
	s := heavy(r, 5, 1, 60)
	solved, e := ldl.Solve(s)
	must(t, e)
	for _, start := range [][]api.Rat{values(r, 5, 1), solved} {
		given, givenStart := cloned(s), slices.Clone(start)
		x, n, e := cg.Solve(s, start)
		must(t, e)
		want := slices.Clone(x)
		clear(x[:cap(x)])
		if !sameSystem(s, given) || !slices.Equal(start, givenStart) {
			t.Error("R5: an answer shares memory with what was handed in")
		}
		if x, k, e := cg.Solve(s, start); !slices.Equal(x, want) || k != n || e != api.OK {
			t.Errorf("R6: asked again: %v, %d, error %d", x, k, e)
		}
	}
}
