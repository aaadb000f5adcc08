package vec

import (
	"slices"

	"gusset/api"
	"gusset/long"
)

// maxRows is how many rows a matrix may have.
const maxRows = 4

// Det is a determinant.
func Det(m [][]api.Rat) (api.Rat, api.Errno) {
	if !isSquare(m) {
		return api.Rat{}, api.ErrArg
	}
	for _, row := range m {
		if e := check(row...); e != api.OK {
			return api.Rat{}, e
		}
	}
	return determinant(m...), api.OK
}

// isSquare tells whether a matrix has as many rows as it may, and rows as long.
func isSquare(m [][]api.Rat) bool {
	if len(m) < 1 || len(m) > maxRows {
		return false
	}
	for _, row := range m {
		if len(row) != len(m) {
			return false
		}
	}
	return true
}

// determinant is that of rows whose numbers may be. They are made whole ahead, so that lowest terms are asked for but once. On the way numbers may be longer than what the packages rat and whole take.
func determinant(m ...[]api.Rat) api.Rat {
	rows := make([][]api.Int, len(m))
	dens := []api.Nat(nil)
	for i, row := range m {
		under := denominators(row...)
		rows[i] = cleared(row, under)
		dens = append(dens, under...)
	}
	return long.Over(expanded(rows), dens...)
}

// denominators are those of the numbers, each but once, without 1.
func denominators(l ...api.Rat) []api.Nat {
	out := []api.Nat(nil)
	for _, a := range l {
		if a.Den != "\x01" && !slices.Contains(out, a.Den) {
			out = append(out, a.Den)
		}
	}
	return out
}

// cleared is a row times all its denominators: a number's own one is only left out.
func cleared(row []api.Rat, dens []api.Nat) []api.Int {
	out := make([]api.Int, len(row))
	for i, a := range row {
		out[i] = a.Num
		for _, d := range dens {
			if d != a.Den {
				out[i] = long.Mul(out[i], api.Int{Mag: d})
			}
		}
	}
	return out
}

// expanded is a determinant of whole numbers, by its first row.
func expanded(rows [][]api.Int) api.Int {
	if len(rows) == 1 {
		return rows[0][0]
	}
	sum := api.Int{}
	for i, a := range rows[0] {
		if a.Mag == "" {
			continue
		}
		term := long.Mul(a, expanded(without(rows[1:], i)))
		if i%2 == 1 {
			sum = long.Sub(sum, term)
		} else {
			sum = long.Add(sum, term)
		}
	}
	return sum
}

// without is the rows without a column.
func without(rows [][]api.Int, column int) [][]api.Int {
	out := make([][]api.Int, len(rows))
	for i, row := range rows {
		out[i] = slices.Concat(row[:column], row[column+1:])
	}
	return out
}
