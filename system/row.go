package system

import (
	"maps"
	"slices"

	"gusset/api"
	"gusset/element"
	"gusset/poly"
	"gusset/rat"
	"gusset/short"
)

// row is what triangles bring to a point's equation, by columns.
type row map[int][]api.Rat

// equation is a point's, as if it were free, while it is gathered: its row, and what the triangles bring to the right side. Sums are made of free points' alone, so that no other number can be too long.
type equation struct {
	row   row
	loads []api.Rat
}

// gathered is the equation of each point, be it free or not.
func gathered(m api.Mesh, f api.Poly) []equation {
	out := make([]equation, len(m.Points))
	for i := range out {
		out[i].row = row{}
	}
	for _, t := range m.Tris {
		a, b, c := m.Points[t[0]], m.Points[t[1]], m.Points[t[2]]
		stiff, _ := element.Stiff(a, b, c)
		loads, _ := poly.Loads(f, a, b, c)
		for i, v := range t {
			out[v].loads = append(out[v].loads, loads[i])
			for k, w := range t {
				out[v].row[w] = append(out[v].row[w], stiff[i][k])
			}
		}
	}
	return out
}

// given is the value of each held point.
func given(m api.Mesh, g api.Poly, held []bool) map[int]api.Rat {
	out := make(map[int]api.Rat, len(m.Points))
	for i, isLoose := range loose(m) {
		switch {
		case isLoose:
			out[i] = rat.Of(0)
		case held[i]:
			out[i], _ = poly.Eval(g, m.Points[i])
		}
	}
	return out
}

// built is the system of what was gathered.
func built(equations []equation, values map[int]api.Rat) api.System {
	out := api.System{}
	for i, q := range equations {
		entries, right := []api.Entry{{Col: i, Val: rat.Of(1)}}, values[i]
		if _, held := values[i]; !held {
			right = short.Sub(total(q.loads), q.row.settled(values))
			entries = q.row.entries()
		}
		out.Rows, out.Right = append(out.Rows, entries), append(out.Right, right)
	}
	return out
}

// settled takes the held columns out of a row, and tells what they come to together.
func (r row) settled(values map[int]api.Rat) api.Rat {
	parts := []api.Rat(nil)
	for _, col := range r.columns() {
		if v, held := values[col]; held {
			parts = append(parts, short.Mul(total(r[col]), v))
			delete(r, col)
		}
	}
	return total(parts)
}

// entries are what a row has that is not 0.
func (r row) entries() []api.Entry {
	out := []api.Entry(nil)
	for _, col := range r.columns() {
		if val := total(r[col]); !isZero(val) {
			out = append(out, api.Entry{Col: col, Val: val})
		}
	}
	return out
}

// columns are those of a row, rising.
func (r row) columns() []int { return slices.Sorted(maps.Keys(r)) }

// total is the sum of numbers.
func total(l []api.Rat) api.Rat {
	return short.Sum(l, func(a api.Rat) api.Rat { return a })
}
