// Package weave holds triangles that lie side by side, as hull and cdt make them: points are put into them, and their edges are turned until no circle has a corner across within it.
package weave

import (
	"slices"

	"gusset/api"
	"gusset/edge"
)

// Web is points that may be asked, and triangles over them: all turn to the left, and no two have the same edge in the same way. Nothing is checked here: that what is handed in is right, those that call see to.
type Web struct {
	Points []api.Point
	Tris   []api.Tri
	sides  edge.Sides
	held   map[edge.Edge]int // of each edge, the lesser number first, how often it was held
	doubts []edge.Edge       // a stack of those that may have to be turned
}

// Of is a web of the points, the triangles and the segments of a mesh, which are held.
func Of(m api.Mesh) *Web {
	sides, _ := edge.SidesOf(m.Tris)
	w := &Web{Points: slices.Clone(m.Points), Tris: slices.Clone(m.Tris), sides: sides, held: map[edge.Edge]int{}}
	for _, s := range m.Segs {
		w.Hold(edge.Edge{s.A, s.B})
	}
	return w
}

// Lay adds a triangle.
func (w *Web) Lay(t api.Tri) {
	w.Tris = append(w.Tris, t)
	w.place(len(w.Tris) - 1)
}

// place notes where the edges of a triangle stand.
func (w *Web) place(i int) {
	for k := range w.Tris[i] {
		w.sides[edge.Of(w.Tris[i], k)] = edge.Side{Tri: i, K: k}
	}
}

// change puts a triangle in the place of another one. Edges of that one which another triangle has taken by now are left to it.
func (w *Web) change(i int, t api.Tri) {
	for k := range w.Tris[i] {
		if e := edge.Of(w.Tris[i], k); w.sides[e].Tri == i {
			delete(w.sides, e)
		}
	}
	w.Tris[i] = t
	w.place(i)
}

// Has tells whether two points are the ends of an edge.
func (w *Web) Has(e edge.Edge) bool { return w.sides.Has(e) }

// Across is the triangle across from the one that an edge, as it goes, stands in, if there is one.
func (w *Web) Across(e edge.Edge) (int, bool) {
	side, found := w.sides.Across(e)
	return side.Tri, found
}

// Hold says that an edge is not to be turned.
func (w *Web) Hold(e edge.Edge) { w.held[e.Plain()]++ }

// IsHeld tells whether an edge is not to be turned.
func (w *Web) IsHeld(e edge.Edge) bool { return w.held[e.Plain()] > 0 }

// Split parts the triangle t at the point v, which lies within it.
func (w *Web) Split(t int, v int) {
	a, b, c := w.Tris[t][0], w.Tris[t][1], w.Tris[t][2]
	w.change(t, api.Tri{a, b, v})
	w.Lay(api.Tri{b, c, v})
	w.Lay(api.Tri{c, a, v})
	w.Doubt(edge.Edge{a, b}, edge.Edge{b, c}, edge.Edge{c, a})
}

// Cut parts an edge, as it stands in a triangle, at the point v, which lies between its ends; and the triangles on both sides.
func (w *Web) Cut(e edge.Edge, v int) {
	w.cutSide(e, v)
	if _, found := w.sides.Across(e); found {
		w.cutSide(e.Back(), v)
	}
}

// cutSide parts the triangle that an edge, as it goes, stands in.
func (w *Web) cutSide(e edge.Edge, v int) {
	side := w.sides[e]
	c := edge.Facing(w.Tris[side.Tri], side.K)
	w.change(side.Tri, api.Tri{e[0], v, c})
	w.Lay(api.Tri{v, e[1], c})
	w.Doubt(edge.Edge{e[1], c}, edge.Edge{c, e[0]})
}
