package system_test

import (
	"slices"
	"testing"

	"gusset/api"
	"gusset/rat"
	"gusset/system"
)

// holdTimes asks Times and Residual.
func holdTimes(t *testing.T, s api.System, x []api.Rat) {
	t.Helper()
	must(t, system.Check(s))
	given, givenX := clonedSystem(s), slices.Clone(x)
	if l, e := system.Times(s, x); !slices.Equal(l, wantTimes(s, x)) || e != api.OK {
		t.Fatalf("P18.3: Times of %d rows, %d bytes: %d numbers, error %d", len(s.Rows), longest(s), len(l), e)
	}
	if l, e := system.Residual(s, x); !slices.Equal(l, wantResidual(s, x)) || e != api.OK {
		t.Fatalf("P18.3: Residual of %d rows, %d bytes: %d numbers, error %d", len(s.Rows), longest(s), len(l), e)
	}
	if !sameSystem(s, given) || !slices.Equal(x, givenX) {
		t.Fatal("R5: what was handed in is changed")
	}
}

// TestTimes asks about systems of many lengths, with rows of nothing and full ones; those of 12 rows of 40 bytes always have an answer.
func TestTimes(t *testing.T) {
	r := random()
	for i := range 60 {
		n, bytes := i%13, 1+i%40
		holdTimes(t, symmetric(r, n, bytes, 25*(1+i%4)), values(r, n, bytes))
	}
	for range 5 {
		holdTimes(t, symmetric(r, 12, 40, 100), values(r, 12, 40))
	}
	holdTimes(t, symmetric(r, 400, 1, 3), values(r, 400, 1))
	holdTimes(t, api.System{}, nil)
	holdTimes(t, symmetric(r, 5, 9, 0), values(r, 5, 2))
	holdTimes(t, symmetric(r, 6, 9, 100), slices.Repeat([]api.Rat{rat.Of(0)}, 6))
	holdTimes(t, symmetric(r, 1, 2000, 100), values(r, 1, 3000))
}

// TestTimesTooLong asks for products that are too long, or sums: those that are not are told.
func TestTimesTooLong(t *testing.T) {
	r := random()
	for i, c := range []struct{ rows, bytes, long int }{{1, 8000, 8000}, {1, 4100, 4100}, {2, 3000, 3000}, {12, 600, 600}, {60, 100, 100}} {
		s, x := symmetric(r, c.rows, c.bytes, 100), values(r, c.rows, c.long)
		if l, e := system.Times(s, x); len(l) != 0 || e != api.ErrLimit {
			t.Errorf("R7: Times, case %d: %d numbers, error %d", i, len(l), e)
		}
		if l, e := system.Residual(s, x); len(l) != 0 || e != api.ErrLimit {
			t.Errorf("R7: Residual, case %d: %d numbers, error %d", i, len(l), e)
		}
	}
	s, x := symmetric(r, 1, 3900, 100), values(r, 1, 3900)
	s.Right = values(r, 1, 3900)
	if l, e := system.Times(s, x); !slices.Equal(l, wantTimes(s, x)) || e != api.OK {
		t.Errorf("P18.3: Times of 3900 bytes: error %d", e)
	}
	if l, e := system.Residual(s, x); len(l) != 0 || e != api.ErrLimit {
		t.Errorf("R7: Residual of 3900 bytes: %d numbers, error %d", len(l), e)
	}
}

// TestLinear holds that Times of k x + y is k times that of x, and that of y.
func TestLinear(t *testing.T) {
	r := random()
	for n := range 10 {
		s, x, y, k := symmetric(r, n, 1+n, 60), values(r, n, 2+n), values(r, n, 3), fraction(r, 4)
		mixed := func(x, y []api.Rat) []api.Rat {
			out := []api.Rat(nil)
			for i := range x {
				out = append(out, ratOf(plus(times(k, bigOf(x[i])), bigOf(y[i]))))
			}
			return out
		}
		ofX, e := system.Times(s, x)
		must(t, e)
		ofY, e := system.Times(s, y)
		must(t, e)
		if l, e := system.Times(s, mixed(x, y)); !slices.Equal(l, mixed(ofX, ofY)) || e != api.OK {
			t.Errorf("P18.4: %d rows: %v, error %d", n, l, e)
		}
	}
}

// TestSymmetric holds that sums of products with two rows of values are the same in either order.
func TestSymmetric(t *testing.T) {
	r := random()
	s, e := system.Build(net(r, 4, 2, 9), polyOf(1), polyOf(2))
	must(t, e)
	x, y := values(r, len(s.Rows), 2), values(r, len(s.Rows), 2)
	product := func(x, y []api.Rat) api.Rat {
		sum := small(0, 1)
		l, e := system.Times(s, y)
		must(t, e)
		for i := range x {
			sum = plus(sum, times(bigOf(x[i]), bigOf(l[i])))
		}
		return ratOf(sum)
	}
	if product(x, y) != product(y, x) {
		t.Error("P18.4: the system of a mesh is not symmetric")
	}
}
