package poly

import (
	"slices"

	"gusset/api"
	"gusset/cons"
	"gusset/span"
	"gusset/whole"
)

// A polynomial of degree 2 is known by what it is at six nodes of a triangle: the corners a, b, c, and the middles of a and b, of b and c, of c and a. What is integrated is then a sum of that, weighed: the weights are the integrals of those polynomials that are 1 at one node and 0 at the others, and are the same for all triangles but for the area.

// How many parts of twice the area the weights count.
const (
	linearParts = 120
	squareParts = 360
)

var (
	// nodes tells how often each corner is in a node, of twice.
	nodes = [6][3]int{{2, 0, 0}, {0, 2, 0}, {0, 0, 2}, {1, 1, 0}, {0, 1, 1}, {1, 0, 1}}

	// integralWeights are those of the nodes in an integral.
	integralWeights = [6]int{0, 0, 0, 20, 20, 20}

	// loadWeights are the same, times the hat of each corner.
	loadWeights = [3][6]int{
		{2, -1, -1, 8, 4, 8},
		{-1, 2, -1, 8, 8, 4},
		{-1, -1, 2, 4, 8, 8},
	}

	// squareWeights are those of two nodes' products.
	squareWeights = [6][6]int{
		{6, -1, -1, 0, -4, 0},
		{-1, 6, -1, 0, 0, -4},
		{-1, -1, 6, -4, 0, 0},
		{0, 0, -4, 32, 16, 16},
		{-4, 0, 0, 16, 32, 16},
		{0, -4, 0, 16, 16, 32},
	}
)

// sample is what a polynomial is at the nodes of a triangle, each divided by all of units; and twice the triangle's area.
type sample struct {
	values []span.Number
	units  []span.Number
	area2  span.Number
	areaBy span.Number // what area2 is to be divided by
}

// sampleOf is the sample of a polynomial over a triangle, or the error.
func sampleOf(f api.Poly, a api.Point, b api.Point, c api.Point) (sample, api.Errno) {
	if e := check(f, a, b, c); e != api.OK {
		return sample{}, e
	}
	area2, _ := cons.Area2(a, b, c)
	if area2.Num.Mag == "" {
		return sample{}, api.ErrFlat
	}
	g := clearedOf(f)
	corners, unit := span.Shared(a.X, b.X, c.X, a.Y, b.Y, c.Y)
	twice := unit.Plus(unit)
	values := []span.Number(nil)
	for _, shares := range nodes {
		x, y := weighed(corners[:3], shares[:]...), weighed(corners[3:], shares[:]...)
		values = append(values, g.at(x, y, twice))
	}
	return sample{
		values: values,
		units:  []span.Number{g.unit, twice, twice},
		area2:  span.NumberOf(api.Int{Mag: area2.Num.Mag}), // whichever way it turns
		areaBy: span.NumberOf(api.Int{Mag: area2.Den}),
	}, api.OK
}

// linear is the values, weighed, as a part of the area.
func (s sample) linear(weights ...int) api.Rat {
	return s.part(weighed(s.values, weights...), linearParts, s.units...)
}

// square is the values' products, weighed, as a part of the area.
func (s sample) square() api.Rat {
	sum := span.Number{}
	for i, weights := range squareWeights {
		sum = sum.Plus(s.values[i].Times(weighed(s.values, weights[:]...)))
	}
	return s.part(sum, squareParts, slices.Concat(s.units, s.units)...)
}

// part is n of so many parts of twice the area, divided by units.
func (s sample) part(n span.Number, parts int, units ...span.Number) api.Rat {
	dens := append([]span.Number{small(parts), s.areaBy}, units...)
	return n.Times(s.area2).Over(dens...)
}

// weighed is the sum of numbers, each as often as its weight says.
func weighed(l []span.Number, weights ...int) span.Number {
	sum := span.Number{}
	for i, w := range weights {
		sum = sum.Plus(l[i].Times(small(w)))
	}
	return sum
}

// small is a small number.
func small(n int) span.Number { return span.NumberOf(whole.Of(n)) }
