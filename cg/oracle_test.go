package cg_test

import (
	"math/big"
	"math/rand/v2"
	"slices"
	"testing"

	"gusset/api"
	"gusset/rat"
)

// What the answers are held against: the library's numbers in full matrices, and the chapter's words one by one.

// ratOf is a number of the library as a Rat, bigOf the other way.
func ratOf(x *big.Rat) api.Rat {
	num := api.Int{Neg: x.Sign() < 0, Mag: api.Nat(x.Num().Bytes())}
	return api.Rat{Num: num, Den: api.Nat(x.Denom().Bytes())}
}

func bigOf(a api.Rat) *big.Rat {
	x := new(big.Rat).SetFrac(new(big.Int).SetBytes([]byte(a.Num.Mag)), new(big.Int).SetBytes([]byte(a.Den)))
	if a.Num.Neg {
		x.Neg(x)
	}
	return x
}

func times(x *big.Rat, y *big.Rat) *big.Rat { return new(big.Rat).Mul(x, y) }
func plus(x *big.Rat, y *big.Rat) *big.Rat  { return new(big.Rat).Add(x, y) }
func minus(x *big.Rat, y *big.Rat) *big.Rat { return new(big.Rat).Sub(x, y) }
func over(x *big.Rat, y *big.Rat) *big.Rat  { return new(big.Rat).Quo(x, y) }

// line is a row of numbers, table a full matrix.
type line []*big.Rat

type table []line

func zeros(n int) table {
	out := make(table, n)
	for i := range out {
		for range n {
			out[i] = append(out[i], new(big.Rat))
		}
	}
	return out
}

func full(s api.System) table {
	out := zeros(len(s.Rows))
	for i, row := range s.Rows {
		for _, e := range row {
			out[i][e.Col] = bigOf(e.Val)
		}
	}
	return out
}

func lineOf(l []api.Rat) line {
	out := line{}
	for _, a := range l {
		out = append(out, bigOf(a))
	}
	return out
}

func (l line) rats() []api.Rat {
	out := []api.Rat(nil)
	for _, x := range l {
		out = append(out, ratOf(x))
	}
	return out
}

func (l line) dot(o line) *big.Rat {
	sum := new(big.Rat)
	for i, x := range l {
		sum = plus(sum, times(x, o[i]))
	}
	return sum
}

// grown is a line, and a times another one.
func (l line) grown(a *big.Rat, o line) line {
	out := line{}
	for i, x := range l {
		out = append(out, plus(x, times(a, o[i])))
	}
	return out
}

func (m table) times(x line) line {
	out := line{}
	for _, row := range m {
		out = append(out, row.dot(x))
	}
	return out
}

// systemOf is the system of a symmetric matrix.
func systemOf(m table, right []api.Rat) api.System {
	s := api.System{Rows: make([][]api.Entry, len(m)), Right: right}
	for i, row := range m {
		for k, x := range row {
			if x.Sign() != 0 {
				s.Rows[i] = append(s.Rows[i], api.Entry{Col: k, Val: ratOf(x)})
			}
		}
	}
	return s
}

// small is a system of whole numbers, numbers a row of such.
func small(m [][]int, right ...int) api.System {
	out := zeros(len(m))
	for i, row := range m {
		for k, x := range row {
			out[i][k].SetInt64(int64(x))
		}
	}
	return systemOf(out, numbers(right...))
}

func numbers(l ...int) []api.Rat {
	out := []api.Rat(nil)
	for _, x := range l {
		out = append(out, rat.Of(x))
	}
	return out
}

// wantSolve takes the chapter's steps from a start, of a positive definite system.
func wantSolve(s api.System, start []api.Rat) ([]api.Rat, int) {
	m, x := full(s), lineOf(start)
	r := lineOf(s.Right).grown(big.NewRat(-1, 1), m.times(x))
	p, n, count := r, r.dot(r), 0
	for n.Sign() != 0 {
		count++
		q := m.times(p)
		a := over(n, p.dot(q))
		x, r = x.grown(a, p), r.grown(minus(new(big.Rat), a), q)
		next := r.dot(r)
		p, n = r.grown(over(next, n), p), next
	}
	return x.rats(), count
}

// wantEnergy goes number by number.
func wantEnergy(s api.System, x []api.Rat) api.Rat {
	l := lineOf(x)
	return ratOf(minus(times(big.NewRat(1, 2), l.dot(full(s).times(l))), l.dot(lineOf(s.Right))))
}

func sameSystem(s, o api.System) bool {
	same := func(a, b []api.Entry) bool { return slices.Equal(a, b) }
	return slices.Equal(s.Right, o.Right) && slices.EqualFunc(s.Rows, o.Rows, same)
}

func cloned(s api.System) api.System {
	out := api.System{Right: slices.Clone(s.Right)}
	for _, row := range s.Rows {
		out.Rows = append(out.Rows, slices.Clone(row))
	}
	return out
}

func random() *rand.Rand { return rand.New(rand.NewPCG(201, 202)) }

// fraction is a number of n bytes above the stroke and below it (less, if both can be cut), of either sign.
func fraction(r *rand.Rand, n int) *big.Rat {
	parts := [2][]byte{make([]byte, n), make([]byte, n)}
	for _, part := range parts {
		for i := range part {
			part[i] = byte(r.Uint32())
		}
		part[0] |= 0x80
	}
	x := new(big.Rat).SetFrac(new(big.Int).SetBytes(parts[0]), new(big.Int).SetBytes(parts[1]))
	if r.IntN(2) == 0 {
		x.Neg(x)
	}
	return x
}

// values are count such numbers.
func values(r *rand.Rand, count, n int) []api.Rat {
	out := []api.Rat(nil)
	for range count {
		out = append(out, ratOf(fraction(r, n)))
	}
	return out
}

// heavy is a positive definite system of at most 9 rows, of numbers of so many bytes: each number of the diagonal is more than 10, and each one beside it at most 1; about as many of these in a hundred are there as told.
func heavy(r *rand.Rand, n int, bytes int, hundred int) api.System {
	m := zeros(n)
	for i := range m {
		above, below := fraction(r, bytes).Num(), fraction(r, bytes).Denom()
		above.Abs(above).SetBit(above, 8*bytes-1, 1).SetBit(above, 8*bytes-2, 1)
		m[i][i].SetFrac(above, below.Rsh(below, 4).SetBit(below, 0, 1))
		for k := range i {
			if r.IntN(100) < hundred {
				m[i][k] = fraction(r, bytes)
				if m[i][k].Cmp(big.NewRat(1, 1)) > 0 || m[i][k].Cmp(big.NewRat(-1, 1)) < 0 {
					m[i][k] = over(big.NewRat(1, 1), m[i][k])
				}
				m[k][i] = m[i][k]
			}
		}
	}
	return systemOf(m, values(r, n, bytes))
}

// must ends a test where a call has an error.
func must(t *testing.T, e api.Errno) {
	t.Helper()
	if e != api.OK {
		t.Fatalf("error %d", e)
	}
}
