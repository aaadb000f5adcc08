package locate

import (
	"gusset/api"
	"gusset/edge"
	"gusset/span"
)

// sight is the ways to all points of a mesh from one that is to be found there: each is made once, though many edges end at its point.
type sight []span.Span

// sightOf is the sight from a point that may be asked.
func sightOf(m api.Mesh, p api.Point) sight {
	out := make(sight, len(m.Points))
	for i, q := range m.Points {
		out[i] = span.Of(p, q)
	}
	return out
}

// side is geom.Orient of an edge's ends, as it goes, and the point.
func (s sight) side(e edge.Edge) int { return s[e[0]].Cross(s[e[1]]).Sign() }

// where is geom.Within of a triangle, which turns to the left, and the point.
func (s sight) where(t api.Tri) int {
	out := 1
	for k := range t {
		out = min(out, s.side(edge.Of(t, k)))
		if out < 0 {
			break
		}
	}
	return out
}
