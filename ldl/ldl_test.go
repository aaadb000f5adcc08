package ldl_test

import (
	"math/big"
	"slices"
	"testing"

	"gusset/api"
	"gusset/ldl"
	"gusset/rat"
)

// hold asks all calls about a system that may be, and whose numbers do not get too long. It tells whether it is positive definite.
func hold(t *testing.T, s api.System) bool {
	t.Helper()
	given, want := cloned(s), wantPositive(s)
	if is, e := ldl.Positive(s); is != want || e != api.OK {
		t.Fatalf("P19.1: %v: %v, error %d", s.Rows, is, e)
	}
	if l, e := ldl.Order(s); !slices.Equal(l, wantOrder(s)) || e != api.OK {
		t.Fatalf("P19.2: %v: %v, not %v, error %d", s.Rows, l, wantOrder(s), e)
	}
	x, e := ldl.Solve(s)
	if want && (e != api.OK || !leavesNothing(s, x)) {
		t.Fatalf("P19.3: %v: %v, error %d", s, x, e)
	}
	if !want && (e != api.ErrSolve || len(x) != 0) {
		t.Fatalf("P19.3: not positive definite: %v: %v, error %d", s, x, e)
	}
	if !sameSystem(s, given) {
		t.Fatal("R5: what was handed in is changed")
	}
	return want
}

func TestExamples(t *testing.T) {
	half := ratOf(big.NewRat(-1, 2))
	for i, c := range []struct {
		s    api.System
		want []api.Rat
		e    api.Errno
	}{
		{api.System{}, nil, api.OK}, {small([][]int{{2, 1}, {1, 2}}, 3, 3), []api.Rat{rat.Of(1), rat.Of(1)}, api.OK},
		{small([][]int{{1, 2}, {2, 1}}, 3, 3), nil, api.ErrSolve}, {small([][]int{{1, 0}, {0, -1}}, 3, 3), nil, api.ErrSolve},
		{small([][]int{{4}}, -2), []api.Rat{half}, api.OK}, {small([][]int{{-4}}, -2), nil, api.ErrSolve}, {small([][]int{{0}}, 0), nil, api.ErrSolve},
		{small([][]int{{1, 0}, {0, 0}}, 1, 0), nil, api.ErrSolve}, {small([][]int{{0, 0}, {0, 1}}, 0, 1), nil, api.ErrSolve},
		{small([][]int{{1, -1}, {-1, 1}}, 0, 0), nil, api.ErrSolve}, {small([][]int{{1, -1}, {-1, 1}}, 1, 2), nil, api.ErrSolve},
		{small([][]int{{2, 1}, {1, 2}}, 0, 0), []api.Rat{rat.Of(0), rat.Of(0)}, api.OK}, {small([][]int{{-2, 1}, {1, -2}}, 1, 1), nil, api.ErrSolve},
	} {
		hold(t, c.s)
		if x, e := ldl.Solve(c.s); !slices.Equal(x, c.want) || e != c.e {
			t.Errorf("P19.3: case %d: %v, error %d", i, x, e)
		}
	}
}

// TestSmallSystems asks about many matrices of few small numbers, whose diagonals are mostly above 0: so some are positive definite, some just not.
func TestSmallSystems(t *testing.T) {
	r := random()
	count := [2]int{}
	for i := range 3000 {
		n := 1 + i%5
		m, right := zeros(n), []api.Rat(nil)
		for i := range m {
			m[i][i].SetInt64(int64(r.IntN(7)))
			for k := range i {
				m[i][k].SetInt64(int64(r.IntN(5) - 2))
				m[k][i] = m[i][k]
			}
			right = append(right, rat.Of(r.IntN(9)-4))
		}
		if hold(t, systemOf(m, right)) {
			count[1]++
		} else {
			count[0]++
		}
	}
	if min(count[0], count[1]) < 300 {
		t.Errorf("%v: too few of one kind", count)
	}
}

// products is the matrix of the products of n rows of numbers, of which only the first rank have anything: it is positive definite just if all have. (Else no x has less than 0, but some have just 0.)
func products(n int, rank int) table {
	r := random()
	rows := zeros(n)
	for i := range rank {
		for k := range n {
			rows[i][k].SetFrac64(int64(r.IntN(19)-9), int64(1+r.IntN(9)))
		}
	}
	out := zeros(n)
	for i := range n {
		for k := range n {
			for _, row := range rows {
				out[i][k] = plus(out[i][k], times(row[i], row[k]))
			}
		}
	}
	return out
}

// TestEdgeOfPositive asks about matrices that are as near as can be to what is not positive definite: just so, a little more, a little less.
func TestEdgeOfPositive(t *testing.T) {
	r := random()
	little := new(big.Rat).SetFrac(big.NewInt(1), new(big.Int).Lsh(big.NewInt(1), 200))
	for n := 1; n < 9; n++ {
		right := values(r, n, 2)
		if !hold(t, systemOf(products(n, n), right)) {
			t.Errorf("P19.1: %d rows: rank %d is not enough", n, n)
		}
		if hold(t, systemOf(products(n, n-1), right)) {
			t.Errorf("P19.1: %d rows: rank %d is enough", n, n-1)
		}
		more, less := products(n, n-1), products(n, n-1)
		for i := range n {
			more[i][i] = plus(more[i][i], little)
		}
		less[n/2][n/2] = minus(less[n/2][n/2], little)
		if !hold(t, systemOf(more, right)) || hold(t, systemOf(less, right)) {
			t.Errorf("P19.1: %d rows: a little does not tell", n)
		}
	}
}

// TestWithinR7 asks about 8 rows at most, and 12 bytes in each number: of those there is always an answer.
func TestWithinR7(t *testing.T) {
	r := random()
	for i := range 40 {
		hold(t, heavy(r, 1+i%8, 1+i%12, 100))
		hold(t, heavy(r, 8, 12, 20+i%5*20))
	}
	for range 20 {
		if !hold(t, heavy(r, 8, 12, 0)) {
			t.Error("P19.1: a diagonal above 0")
		}
		s, other := heavy(r, 8, 12, 100), heavy(r, 8, 12, 100)
		m := full(s)
		for i := range m { // less beside the diagonal: positive definite, and as long
			for k := range i {
				m[i][k] = small12(m[i][k])
				m[k][i] = m[i][k]
			}
		}
		if !hold(t, systemOf(m, other.Right)) {
			t.Error("P19.1: little beside the diagonal")
		}
	}
}

// small12 is a number with fewer bits above the stroke.
func small12(x *big.Rat) *big.Rat {
	over := new(big.Int).Quo(x.Num(), big.NewInt(256))
	return new(big.Rat).SetFrac(over.Add(over, big.NewInt(1)), x.Denom())
}

// TestOrder asks about nets of many kinds: where several have as few neighbours, and where those that go make new ones.
func TestOrder(t *testing.T) {
	star := small([][]int{{9, 1, 1, 1}, {1, 9, 0, 0}, {1, 0, 9, 0}, {1, 0, 0, 9}}, 1, 1, 1, 1)
	if l, e := ldl.Order(star); !slices.Equal(l, []int{1, 2, 0, 3}) || e != api.OK {
		t.Errorf("P19.2: %v, error %d", l, e)
	}
	r := random()
	for i := range 200 {
		s := heavy(r, i%30, 1, 3+i%60)
		for k := range s.Rows { // an entry of its own makes nobody a neighbour; so it is the same without
			if i%2 == 0 {
				s.Rows[k] = slices.DeleteFunc(s.Rows[k], func(e api.Entry) bool { return e.Col == k })
			}
		}
		if l, e := ldl.Order(s); !slices.Equal(l, wantOrder(s)) || e != api.OK {
			t.Fatalf("P19.2: %d rows: %v, not %v, error %d", len(s.Rows), l, wantOrder(s), e)
		}
	}
	for _, s := range []api.System{heavy(r, 130, 1, 4), grid(9), heavy(r, 70, 1, 100)} {
		if l, e := ldl.Order(s); !slices.Equal(l, wantOrder(s)) || e != api.OK {
			t.Errorf("P19.2: %d rows: %v, not %v, error %d", len(s.Rows), l, wantOrder(s), e)
		}
	}
}

// TestManyRows asks about as many rows as there may be.
func TestManyRows(t *testing.T) {
	s := grid(20)
	if is, e := ldl.Positive(s); !is || e != api.OK {
		t.Errorf("P19.1: %v, error %d", is, e)
	}
	if x, e := ldl.Solve(s); !leavesNothing(s, x) || e != api.OK {
		t.Errorf("P19.3: error %d", e)
	}
	if l, e := ldl.Order(s); len(l) != 400 || !slices.Equal(l[:4], []int{0, 19, 380, 399}) || e != api.OK {
		t.Errorf("P19.2: %v, error %d", l, e)
	}
	for i, row := range s.Rows { // the sums of all rows are 0 then
		sum := new(big.Rat)
		for _, e := range row {
			if e.Col != i {
				sum = minus(sum, bigOf(e.Val))
			}
		}
		for k := range row {
			if row[k].Col == i {
				row[k].Val = ratOf(sum)
			}
		}
	}
	if is, e := ldl.Positive(s); is || e != api.OK {
		t.Errorf("P19.1: sums 0: %v, error %d", is, e)
	}
	if x, e := ldl.Solve(s); len(x) != 0 || e != api.ErrSolve {
		t.Errorf("P19.3: sums 0: error %d", e)
	}
	chain := zeros(400)
	for i := range chain {
		chain[i][i].SetInt64(2)
		if i > 0 {
			chain[i][i-1].SetInt64(1)
			chain[i-1][i].SetInt64(1)
		}
	}
	hold(t, systemOf(chain, values(random(), 400, 1)))
}

// TestNewMemory holds that what is answered is new, and the same when it is asked again.
func TestNewMemory(t *testing.T) {
	s := grid(4)
	given := cloned(s)
	x, e := ldl.Solve(s)
	must(t, e)
	l, e := ldl.Order(s)
	must(t, e)
	wantX, wantL := slices.Clone(x), slices.Clone(l)
	clear(x[:cap(x)])
	clear(l[:cap(l)])
	if !sameSystem(s, given) {
		t.Error("R5: an answer shares memory with what was handed in")
	}
	for range 20 {
		x, e := ldl.Solve(s)
		l, f := ldl.Order(s)
		if !slices.Equal(x, wantX) || !slices.Equal(l, wantL) || e != api.OK || f != api.OK {
			t.Errorf("R6: asked again: %v, error %d; %v, error %d", x, e, l, f)
		}
	}
}
