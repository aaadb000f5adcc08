// Package weave holds triangles that lie side by side, as hull, cdt and refine make them: points are put into them, and their edges are turned until no circle has a corner across within it.
package weave

import (
	"maps"
	"slices"

	"gusset/api"
	"gusset/edge"
	"gusset/span"
)

// Web is points that may be asked, and triangles over them: all turn to the left, and no two have the same edge in the same way. Nothing is checked here: that what is handed in is right, those that call see to.
type Web struct {
	Points []api.Point
	Tris   []api.Tri
	sides  edge.Sides
	held   map[edge.Edge]int // of each edge, the lesser number first, how often it was held
	doubts []edge.Edge       // a stack of those that may have to be turned
}

// Of is a web of the points, the triangles and the segments of a mesh, which are held.
func Of(m api.Mesh) *Web {
	sides, _ := edge.SidesOf(m.Tris)
	w := &Web{Points: slices.Clone(m.Points), Tris: slices.Clone(m.Tris), sides: sides, held: map[edge.Edge]int{}}
	for _, s := range m.Segs {
		w.Hold(edge.Edge{s.A, s.B})
	}
	return w
}

// Copy is the same web in memory of its own.
func (w *Web) Copy() *Web {
	return &Web{slices.Clone(w.Points), slices.Clone(w.Tris), maps.Clone(w.sides), maps.Clone(w.held), slices.Clone(w.doubts)}
}

// Lay adds a triangle.
func (w *Web) Lay(t api.Tri) {
	w.Tris = append(w.Tris, t)
	w.place(len(w.Tris) - 1)
}

// place notes where the edges of a triangle stand.
func (w *Web) place(i int) {
	for k := range w.Tris[i] {
		w.sides[edge.Of(w.Tris[i], k)] = edge.Side{Tri: i, K: k}
	}
}

// change puts a triangle in the place of another one. Edges of that one which another triangle has taken by now are left to it.
func (w *Web) change(i int, t api.Tri) {
	for k := range w.Tris[i] {
		if e := edge.Of(w.Tris[i], k); w.sides[e].Tri == i {
			delete(w.sides, e)
		}
	}
	w.Tris[i] = t
	w.place(i)
}

// Has tells whether two points are the ends of an edge.
func (w *Web) Has(e edge.Edge) bool { return w.sides.Has(e) }

// Across is the triangle across from the one that an edge, as it goes, stands in, if there is one.
func (w *Web) Across(e edge.Edge) (int, bool) {
	side, found := w.sides.Across(e)
	return side.Tri, found
}

// Hold says that an edge is not to be turned.
func (w *Web) Hold(e edge.Edge) { w.held[e.Plain()]++ }

// IsHeld tells whether an edge is not to be turned.
func (w *Web) IsHeld(e edge.Edge) bool { return w.held[e.Plain()] > 0 }

// Split parts the triangle t at the point v, which lies within it.
func (w *Web) Split(t int, v int) {
	a, b, c := w.Tris[t][0], w.Tris[t][1], w.Tris[t][2]
	w.change(t, api.Tri{a, b, v})
	w.Lay(api.Tri{b, c, v})
	w.Lay(api.Tri{c, a, v})
	w.Doubt(edge.Edge{a, b}, edge.Edge{b, c}, edge.Edge{c, a})
}

// Cut parts an edge at the point v, which lies between its ends, and the triangles on both sides. If it was held, its parts are.
func (w *Web) Cut(e edge.Edge, v int) {
	w.cutSide(e, v)
	w.cutSide(e.Back(), v)
	if w.IsHeld(e) {
		delete(w.held, e.Plain())
		w.Hold(edge.Edge{e[0], v})
		w.Hold(edge.Edge{v, e[1]})
	}
}

// cutSide parts the triangle that an edge, as it goes, stands in, if there is one.
func (w *Web) cutSide(e edge.Edge, v int) {
	side, found := w.sides[e]
	if !found {
		return
	}
	c := edge.Facing(w.Tris[side.Tri], side.K)
	w.change(side.Tri, api.Tri{e[0], v, c})
	w.Lay(api.Tri{v, e[1], c})
	w.Doubt(edge.Edge{e[1], c}, edge.Edge{c, e[0]})
}

// Put puts the point v in where Seek has found it, in the triangle t, on its edge k or on none; and settles that.
func (w *Web) Put(v int, t int, k int) {
	if k < 0 {
		w.Split(t, v)
	} else {
		w.Cut(edge.Of(w.Tris[t], k), v)
	}
	w.Settle(v)
}

// Seek is the triangle where a point lies, and the edge on which it does, -1 if on none. The way there leads from the triangle t over edges that have the point beyond them; if one of these is held, or has nothing across, that is told, and that it is in the way. As no circle has a corner across within it, each triangle's circle is nearer to having the point in it than the one ahead, and the way comes to an end.
func (w *Web) Seek(t int, p api.Point) (int, int, bool) {
walk:
	for {
		on := -1
		for k := range w.Tris[t] {
			e := edge.Of(w.Tris[t], k)
			switch span.Turn(w.Points[e[0]], w.Points[e[1]], p) {
			case -1:
				next, found := w.Across(e)
				if !found || w.IsHeld(e) {
					return t, k, true
				}
				t = next
				continue walk
			case 0:
				on = k
			}
		}
		return t, on, false
	}
}
