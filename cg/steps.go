package cg

import (
	"iter"

	"gusset/api"
	"gusset/lowest"
	"gusset/rat"
	"gusset/short"
)

// vector is numbers, one for each row of a system.
type vector struct{ lowest.Row }

// vectorOf is that of numbers that may be.
func vectorOf(l []api.Rat) vector { return vector{lowest.Of(l)} }

// still is n numbers 0.
func still(n int) vector { return vector{lowest.Make(make([]api.Int, n))} }

// plus is a vector, and a times another one.
func (x vector) plus(a api.Rat, y vector) vector { return vector{x.Plus(a, y.Row)} }

// minus is a vector less a times another one.
func (x vector) minus(a api.Rat, y vector) vector {
	a.Num.Neg = a.Num.Mag != "" && !a.Num.Neg
	return x.plus(a, y)
}

// dot is the sum of products, number by number.
func (x vector) dot(y vector) api.Rat { return x.Dot(y.Row) }

// from is where one comes to, if one goes by a vector from a start.
func (x vector) from(start []api.Rat) []api.Rat {
	out := x.Numbers()
	for i, v := range start {
		out[i] = short.Add(v, out[i])
	}
	return out
}

// matrix is that of a system: of each row the columns, and what stands there.
type matrix []struct {
	cols []int
	vals lowest.Row
}

// matrixOf is that of a system that may be.
func matrixOf(s api.System) matrix {
	out := make(matrix, len(s.Rows))
	for i, entries := range s.Rows {
		vals := make([]api.Rat, len(entries))
		for at, e := range entries {
			out[i].cols, vals[at] = append(out[i].cols, e.Col), e.Val
		}
		out[i].vals = lowest.Of(vals)
	}
	return out
}

// times is system.Times of a vector. The vector's factor is left out on the way, as it is all rows'.
func (m matrix) times(x vector) vector {
	out := make([]api.Rat, len(m))
	for i, row := range m {
		met := lowest.Row{Factor: rat.Of(1), Nums: make([]api.Int, len(row.cols))}
		for at, col := range row.cols {
			met.Nums[at] = x.Nums[col]
		}
		out[i] = row.vals.Dot(met)
	}
	return vector{lowest.Of(out).Times(x.Factor)}
}

// steps are those from a start on that leaves r: the way that one has come from there, at each of them longer. (The start itself is not asked for: so its numbers need not share a denominator.)
func steps(m matrix, way vector, r vector) iter.Seq[vector] {
	return func(yield func(vector) bool) {
		p, n := r, r.dot(r)
		for n.Num.Mag != "" {
			q := m.times(p)
			a := short.Div(n, p.dot(q))
			way, r = way.plus(a, p), r.minus(a, q)
			if !yield(way) {
				return
			}
			next := r.dot(r)
			p, n = r.plus(short.Div(next, n), p), next
		}
	}
}
