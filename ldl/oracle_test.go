package ldl_test

import (
	"math/big"
	"math/rand/v2"
	"slices"
	"testing"

	"gusset/api"
	"gusset/rat"
)

// What the answers are held against: the library's numbers in full matrices, and the chapter's words one by one.

// ratOf is a number of the library as a Rat, bigOf the other way.
func ratOf(x *big.Rat) api.Rat {
	num := api.Int{Neg: x.Sign() < 0, Mag: api.Nat(x.Num().Bytes())}
	return api.Rat{Num: num, Den: api.Nat(x.Denom().Bytes())}
}

func bigOf(a api.Rat) *big.Rat {
	x := new(big.Rat).SetFrac(new(big.Int).SetBytes([]byte(a.Num.Mag)), new(big.Int).SetBytes([]byte(a.Den)))
	if a.Num.Neg {
		x.Neg(x)
	}
	return x
}

func times(x *big.Rat, y *big.Rat) *big.Rat { return new(big.Rat).Mul(x, y) }
func plus(x *big.Rat, y *big.Rat) *big.Rat  { return new(big.Rat).Add(x, y) }
func minus(x *big.Rat, y *big.Rat) *big.Rat { return new(big.Rat).Sub(x, y) }

// table is a full matrix.
type table [][]*big.Rat

func zeros(n int) table {
	out := make(table, n)
	for i := range out {
		for range n {
			out[i] = append(out[i], new(big.Rat))
		}
	}
	return out
}

func full(s api.System) table {
	out := zeros(len(s.Rows))
	for i, row := range s.Rows {
		for _, e := range row {
			out[i][e.Col] = bigOf(e.Val)
		}
	}
	return out
}

// systemOf is the system of a symmetric matrix.
func systemOf(m table, right []api.Rat) api.System {
	s := api.System{Rows: make([][]api.Entry, len(m)), Right: right}
	for i, row := range m {
		for k, x := range row {
			if x.Sign() != 0 {
				s.Rows[i] = append(s.Rows[i], api.Entry{Col: k, Val: ratOf(x)})
			}
		}
	}
	return s
}

// small is a system of whole numbers.
func small(m [][]int, right ...int) api.System {
	out, values := zeros(len(m)), []api.Rat(nil)
	for i, row := range m {
		for k, x := range row {
			out[i][k].SetInt64(int64(x))
		}
		values = append(values, rat.Of(right[i]))
	}
	return systemOf(out, values)
}

// wantPositive takes the unknowns out in the order of their numbers: the matrix is positive definite just if all that are divided by are above 0.
func wantPositive(s api.System) bool {
	m := full(s)
	for i := range m {
		if m[i][i].Sign() <= 0 {
			return false
		}
		for k := i + 1; k < len(m); k++ {
			if m[k][i].Sign() == 0 {
				continue
			}
			share := new(big.Rat).Quo(m[k][i], m[i][i])
			for j := i; j < len(m); j++ {
				m[k][j] = minus(m[k][j], times(share, m[i][j]))
			}
		}
	}
	return true
}

// wantOrder keeps pairs of neighbours, and looks through all of them for each unknown that goes.
func wantOrder(s api.System) []int {
	pairs, left := map[[2]int]struct{}{}, []int(nil)
	for i, row := range s.Rows {
		left = append(left, i)
		for _, e := range row {
			if e.Col != i {
				pairs[[2]int{i, e.Col}] = struct{}{}
			}
		}
	}
	near := func(i int) []int {
		out := []int(nil)
		for _, k := range left {
			if _, found := pairs[[2]int{i, k}]; found {
				out = append(out, k)
			}
		}
		return out
	}
	order := []int(nil)
	for len(left) > 0 {
		best := left[0]
		for _, i := range left {
			if len(near(i)) < len(near(best)) {
				best = i
			}
		}
		for _, i := range near(best) {
			for _, k := range near(best) {
				if i != k {
					pairs[[2]int{i, k}] = struct{}{}
				}
			}
		}
		order = append(order, best)
		left = slices.DeleteFunc(left, func(i int) bool { return i == best })
	}
	return order
}

// leavesNothing tells whether values solve a system.
func leavesNothing(s api.System, x []api.Rat) bool {
	if len(x) != len(s.Rows) {
		return false
	}
	for i, row := range s.Rows {
		left := bigOf(s.Right[i])
		for _, e := range row {
			left = minus(left, times(bigOf(e.Val), bigOf(x[e.Col])))
		}
		if left.Sign() != 0 || rat.Check(x[i]) != api.OK {
			return false
		}
	}
	return true
}

func sameSystem(s, o api.System) bool {
	same := func(a, b []api.Entry) bool { return slices.Equal(a, b) }
	return slices.Equal(s.Right, o.Right) && slices.EqualFunc(s.Rows, o.Rows, same)
}

func cloned(s api.System) api.System {
	out := api.System{Right: slices.Clone(s.Right)}
	for _, row := range s.Rows {
		out.Rows = append(out.Rows, slices.Clone(row))
	}
	return out
}

func random() *rand.Rand { return rand.New(rand.NewPCG(193, 194)) }

// fraction is a number of n bytes above the stroke and below it (less, if both can be cut), of either sign.
func fraction(r *rand.Rand, n int) *big.Rat {
	parts := [2][]byte{make([]byte, n), make([]byte, n)}
	for _, part := range parts {
		for i := range part {
			part[i] = byte(r.Uint32())
		}
		part[0] |= 0x80
	}
	x := new(big.Rat).SetFrac(new(big.Int).SetBytes(parts[0]), new(big.Int).SetBytes(parts[1]))
	if r.IntN(2) == 0 {
		x.Neg(x)
	}
	return x
}

// values are count such numbers.
func values(r *rand.Rand, count, n int) []api.Rat {
	out := []api.Rat(nil)
	for range count {
		out = append(out, ratOf(fraction(r, n)))
	}
	return out
}

// heavy is a symmetric system of n rows, of numbers of so many bytes, whose diagonal is above 0, and greater than what stands beside it; about as many others in a hundred are there as told.
func heavy(r *rand.Rand, n int, bytes int, hundred int) api.System {
	m := zeros(n)
	for i := range m {
		parts := [2][]byte{make([]byte, bytes), make([]byte, bytes)}
		for k := range bytes {
			parts[0][k], parts[1][k] = 0xf0|byte(r.Uint32()), byte(r.Uint32())
		}
		parts[1][0] = 0x10 | parts[1][0]&15
		m[i][i] = new(big.Rat).SetFrac(new(big.Int).SetBytes(parts[0]), new(big.Int).SetBytes(parts[1]))
		for k := range i {
			if r.IntN(100) < hundred {
				m[i][k] = fraction(r, bytes)
				m[k][i] = m[i][k]
			}
		}
	}
	return systemOf(m, values(r, n, bytes))
}

// grid is the system of n by n unknowns, each of which is held against the four about it.
func grid(n int) api.System {
	m, right := zeros(n*n), []api.Rat(nil)
	for i := range m {
		m[i][i].SetInt64(4)
		for _, k := range []int{i + 1, i + n} {
			if k < n*n && (k != i+1 || k%n != 0) {
				m[i][k].SetInt64(-1)
				m[k][i].SetInt64(-1)
			}
		}
		right = append(right, rat.Of(i*i%17-5))
	}
	return systemOf(m, right)
}

// must ends a test where a call has an error.
func must(t *testing.T, e api.Errno) {
	t.Helper()
	if e != api.OK {
		t.Fatalf("error %d", e)
	}
}
