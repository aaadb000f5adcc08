// Package surface has functions that are linear on each triangle of a mesh, and tells how wrong they may be: what layer 21, estimate, tells, but of values of any length. Where a number on the way is too long, one gives up as package short does.
package surface

import (
	"gusset/api"
	"gusset/edge"
	"gusset/long"
	"gusset/lowest"
	"gusset/rat"
	"gusset/short"
	"gusset/vec"
)

// one, two are these Nats.
const (
	one api.Nat = "\x01"
	two api.Nat = "\x02"
)

// Each tells of each triangle how wrong values may be there, squared; Total is the sum; and Energy2 is the integral of the slope's square. The mesh may be, and the values, one for each of its points, and the load; ErrLimit is told if a number on the way is too long, and nothing else.
func Each(m api.Mesh, u []api.Rat, f api.Poly) ([]api.Rat, api.Errno) {
	return answer(m, u, func(s surface) []api.Rat { return s.each(f) })
}

func Total(m api.Mesh, u []api.Rat, f api.Poly) (api.Rat, api.Errno) {
	return answer(m, u, func(s surface) api.Rat { return s.total(f) })
}

func Energy2(m api.Mesh, u []api.Rat) (api.Rat, api.Errno) { return answer(m, u, surface.energy2) }

// answer is what work makes of a surface; or ErrLimit, if a number gets too long both with whole numbers and with those that are given: values that have little in common may be short, but long as whole numbers.
func answer[T any](m api.Mesh, u []api.Rat, work func(s surface) T) (T, api.Errno) {
	n := netOf(m)
	if out, e := short.Answer(func() T { return work(surfaceOf(n, wholeValues(u))) }); e == api.OK {
		return out, e
	}
	return short.Answer(func() T { return work(surfaceOf(n, values{u, rat.Of(1)})) })
}

// values are those at the points of a net: numbers, and the square of what these are to be multiplied by.
type values struct {
	numbers []api.Rat
	factor2 api.Rat
}

// wholeValues are values as whole numbers. So nothing long is asked for its divisors again and again, for values that solve one system have nearly all of their long denominators in common.
func wholeValues(u []api.Rat) values {
	row := lowest.Of(u)
	out := values{make([]api.Rat, len(u)), square(row.Factor)}
	for i, n := range row.Nums {
		out.numbers[i] = api.Rat{Num: n, Den: one}
	}
	return out
}

// surface is a net, and a function on it that is linear on each triangle. Its slopes, and all that is made of them, are those of the values' numbers alone, but for what each, total and energy2 tell.
type surface struct {
	net
	values
	slopes []api.Point           // by triangle, once they are asked for
	known  map[edge.Edge]api.Rat // shares, by plain edges: an edge has the same in both its triangles
}

// surfaceOf is that of a net and of values at its points.
func surfaceOf(n net, v values) surface {
	return surface{n, v, make([]api.Point, len(n.Tris)), map[edge.Edge]api.Rat{}}
}

// each is what Each tells.
func (s surface) each(f api.Poly) []api.Rat {
	out := s.loads(f)
	for i, shares := range s.shares() {
		out[i] = short.Add(out[i], short.Mul(s.factor2, shares))
	}
	return out
}

// total is what Total tells.
func (s surface) total(f api.Poly) api.Rat {
	return short.Add(sum(s.loads(f)), short.Mul(s.factor2, sum(s.shares())))
}

// energy2 is what Energy2 tells.
func (s surface) energy2() api.Rat {
	parts := make([]api.Rat, len(s.Tris))
	for i := range parts {
		parts[i] = short.Mul(s.area(i), short.Told(vec.Norm2(s.slope(i))))
	}
	return short.Mul(s.factor2, sum(parts))
}

// slope is that of triangle i. One that is not asked for may be as long as it will.
func (s surface) slope(i int) api.Point {
	if s.slopes[i] == (api.Point{}) {
		out := api.Point{X: rat.Of(0), Y: rat.Of(0)}
		for k, v := range s.Tris[i] {
			hat := s.hat(i, k)
			out.X = short.Add(out.X, short.Mul(s.numbers[v], hat.X))
			out.Y = short.Add(out.Y, short.Mul(s.numbers[v], hat.Y))
		}
		s.slopes[i] = out
	}
	return s.slopes[i]
}

// shares is of each triangle the sum of its edges' shares.
func (s surface) shares() []api.Rat {
	out := make([]api.Rat, len(s.Tris))
	for i := range out {
		out[i] = sum([]api.Rat{s.share(i, 0), s.share(i, 1), s.share(i, 2)})
	}
	return out
}

// share is that of the edge k of triangle i.
func (s surface) share(i int, k int) api.Rat {
	way := edge.Of(s.Tris[i], k)
	if s.isFixed(way) {
		return rat.Of(0)
	}
	out, found := s.known[way.Plain()]
	if !found {
		out = s.jump(i, way)
		s.known[way.Plain()] = out
	}
	return out
}

// jump is the share of an edge of triangle i that is no Fixed segment.
func (s surface) jump(i int, way edge.Edge) api.Rat {
	across, found := s.sides.Across(way)
	if !found {
		return square(short.Told(vec.Cross(s.along(way), s.slope(i))))
	}
	change := short.Told(vec.Minus(s.slope(i), s.slope(across.Tri)))
	return half(square(short.Told(vec.Cross(s.along(way), change))))
}

// half is half of a number.
func half(a api.Rat) api.Rat { return short.Mul(a, api.Rat{Num: api.Int{Mag: one}, Den: two}) }

// square is a number times itself: it is in its lowest terms, as the number is.
func square(a api.Rat) api.Rat {
	den := api.Int{Mag: a.Den}
	return short.Fit(api.Rat{Num: long.Mul(a.Num, a.Num), Den: long.Mul(den, den).Mag})
}

// sum is the sum of numbers.
func sum(l []api.Rat) api.Rat {
	return short.Sum(l, func(a api.Rat) api.Rat { return a })
}
