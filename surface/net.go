package surface

import (
	"gusset/api"
	"gusset/cons"
	"gusset/edge"
	"gusset/element"
	"gusset/poly"
	"gusset/rat"
	"gusset/short"
	"gusset/vec"
)

// net is a mesh, and where its edges and segments stand.
type net struct {
	api.Mesh
	sides edge.Sides
	segs  map[edge.Edge]api.Seg // by plain edges
}

// netOf is that of a mesh that may be.
func netOf(m api.Mesh) net {
	sides, _ := edge.SidesOf(m.Tris)
	n := net{m, sides, make(map[edge.Edge]api.Seg, len(m.Segs))}
	for _, s := range m.Segs {
		n.segs[edge.Edge{s.A, s.B}.Plain()] = s
	}
	return n
}

// isFixed tells whether an edge is a Fixed segment.
func (n net) isFixed(way edge.Edge) bool { return n.segs[way.Plain()].Fixed }

// along is the way from an edge's first end to the other.
func (n net) along(way edge.Edge) api.Point {
	return short.Told(vec.Minus(n.Points[way[1]], n.Points[way[0]]))
}

// corners are those of triangle i.
func (n net) corners(i int) (api.Point, api.Point, api.Point) {
	t := n.Tris[i]
	return n.Points[t[0]], n.Points[t[1]], n.Points[t[2]]
}

// area is that of triangle i.
func (n net) area(i int) api.Rat { return half(short.Told(cons.Area2(n.corners(i)))) }

// hat is the slope on triangle i of the function that is 1 at its corner k, and 0 at the others. Slopes are put together of these, since package element takes no values of more than 3000 bytes.
func (n net) hat(i int, k int) api.Point {
	u := [3]api.Rat{rat.Of(0), rat.Of(0), rat.Of(0)}
	u[k] = rat.Of(1)
	a, b, c := n.corners(i)
	return short.Told(element.Slope(a, b, c, u))
}

// loads is of each triangle its area times the integral of the load's square.
func (n net) loads(f api.Poly) []api.Rat {
	out := make([]api.Rat, len(n.Tris))
	for i := range out {
		a, b, c := n.corners(i)
		out[i] = short.Mul(n.area(i), short.Told(poly.Square(f, a, b, c)))
	}
	return out
}
