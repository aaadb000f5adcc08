// Package edge holds what the layers from mesh on ask of the edges of triangles: which they are, where they stand, and what lies across.
package edge

import "gusset/api"

// Edge goes from one point to another, by their numbers.
type Edge [2]int

// Of is the edge k of a triangle: from its corner k to the next one.
func Of(t api.Tri, k int) Edge { return Edge{t[k], t[(k+1)%len(t)]} }

// Facing is the corner of a triangle that is no end of its edge k.
func Facing(t api.Tri, k int) int { return t[(k+2)%len(t)] }

// Back is an edge the other way.
func (e Edge) Back() Edge { return Edge{e[1], e[0]} }

// Plain is an edge whichever way it goes: the lesser number first.
func (e Edge) Plain() Edge { return Edge{min(e[0], e[1]), max(e[0], e[1])} }

// Side is where an edge stands: in which triangle, and which of its edges it is.
type Side struct {
	Tri int
	K   int
}

// Sides tells of each edge, as it goes, where it stands.
type Sides map[Edge]Side

// SidesOf are those of triangles; and whether no edge stands in two of them in the same way. (Of such the last one is told.)
func SidesOf(tris []api.Tri) (Sides, bool) {
	out := make(Sides, 3*len(tris))
	for i, t := range tris {
		for k := range t {
			out[Of(t, k)] = Side{i, k}
		}
	}
	return out, len(out) == 3*len(tris)
}

// Across is where an edge stands the other way, if it does.
func (s Sides) Across(e Edge) (Side, bool) {
	side, found := s[e.Back()]
	return side, found
}

// Has tells whether two points are the ends of an edge, in either way.
func (s Sides) Has(e Edge) bool {
	_, there := s[e]
	_, back := s[e.Back()]
	return there || back
}
