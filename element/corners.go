package element

import (
	"gusset/api"
	"gusset/long"
	"gusset/short"
	"gusset/span"
)

// corners are those of a triangle.
type corners [3]api.Point

// edges are those of corners that may be asked.
func (t corners) edges() edges {
	numbers, unit := span.Shared(t[0].X, t[1].X, t[2].X, t[0].Y, t[1].Y, t[2].Y)
	xs, ys := numbers[:3], numbers[3:]
	out := edges{}
	for k := range out {
		from, to := (k+1)%3, (k+2)%3
		out[k] = span.Span{X: xs[to].Minus(xs[from]), Y: ys[to].Minus(ys[from]), Unit: unit}
	}
	return out
}

// edges are a triangle's, one behind the other, all in one unit: number k faces corner k.
type edges [3]span.Span

// area2 is twice the triangle's area, with the sign of its turn, times the unit's square.
func (l edges) area2() span.Number { return l[0].Cross(l[1]) }

// slope is that of the function with such values at the corners: each counts by its hat's slope.
func (l edges) slope(u [3]api.Rat) api.Point {
	byX, byY := []long.Part(nil), []long.Part(nil)
	for k, v := range u {
		hat := l.hat(k)
		byX, byY = append(byX, long.Product(v, hat.X)), append(byY, long.Product(v, hat.Y))
	}
	return api.Point{X: short.Fit(long.Sum(byX...)), Y: short.Fit(long.Sum(byY...))}
}

// hat is the slope of a corner's hat. It goes from the edge that faces the corner straight to that, which is to the left, if the triangle turns so.
func (l edges) hat(k int) api.Point {
	area2, up := l.area2(), l[k].Turned()
	if area2.Sign() < 0 {
		up = up.Turned().Turned()
	}
	return api.Point{X: up.X.Times(up.Unit).Over(area2), Y: up.Y.Times(up.Unit).Over(area2)}
}
