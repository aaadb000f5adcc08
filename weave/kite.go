package weave

import (
	"gusset/api"
	"gusset/edge"
	"gusset/span"
)

// Kite is what lies about an edge that goes from A to B: C is the third corner of the triangle to the left, D that of the one to the right.
type Kite struct {
	A, B, C, D int
}

// Turned is the other edge that a kite may have.
func (k Kite) Turned() edge.Edge { return edge.Edge{k.C, k.D} }

// Kite is that about an edge, if there is a triangle on either side.
func (w *Web) Kite(e edge.Edge) (Kite, bool) {
	left, there := w.sides[e]
	right, back := w.sides[e.Back()]
	if !there || !back {
		return Kite{}, false
	}
	return Kite{e[0], e[1], edge.Facing(w.Tris[left.Tri], left.K), edge.Facing(w.Tris[right.Tri], right.K)}, true
}

// Convex tells whether the edge of a kite can be turned: what comes of it turns to the left.
func (w *Web) Convex(k Kite) bool {
	a, b, c, d := w.Points[k.A], w.Points[k.B], w.Points[k.C], w.Points[k.D]
	return span.Turn(d, b, c) > 0 && span.Turn(d, c, a) > 0
}

// Turn turns the edge of a kite that is convex. The edges about it are in doubt then.
func (w *Web) Turn(k Kite) {
	left, right := w.sides[edge.Edge{k.A, k.B}].Tri, w.sides[edge.Edge{k.B, k.A}].Tri
	w.change(left, api.Tri{k.D, k.B, k.C})
	w.change(right, api.Tri{k.D, k.C, k.A})
	w.Doubt(edge.Edge{k.A, k.D}, edge.Edge{k.D, k.B}, edge.Edge{k.B, k.C}, edge.Edge{k.C, k.A})
}

// Doubt says that edges may have to be turned, if there are such still when they are asked.
func (w *Web) Doubt(l ...edge.Edge) { w.doubts = append(w.doubts, l...) }

// Settle turns edges until none that was in doubt is wrong. Edges at the point known, if that is not below 0, are right: those of a point that was put in last are, for they lie in circles that were empty ahead of it.
func (w *Web) Settle(known int) {
	for len(w.doubts) > 0 {
		e := w.doubts[len(w.doubts)-1]
		w.doubts = w.doubts[:len(w.doubts)-1]
		if e[0] == known || e[1] == known {
			continue
		}
		if k, wrong := w.wrong(e); wrong {
			w.Turn(k)
		}
	}
}

// wrong tells whether an edge is to be turned: it is not held, and the corner across lies within the circle. Its kite is convex then.
func (w *Web) wrong(e edge.Edge) (Kite, bool) {
	k, both := w.Kite(e)
	if !both || w.IsHeld(e) {
		return Kite{}, false
	}
	return k, span.Circle(w.Points[k.A], w.Points[k.B], w.Points[k.C], w.Points[k.D]) > 0
}

// Legal tells whether no edge is to be turned.
func (w *Web) Legal() bool {
	for _, t := range w.Tris {
		for k := range t {
			e := edge.Of(t, k)
			if e != e.Plain() { // if there is a triangle across, it is asked from there
				continue
			}
			if _, wrong := w.wrong(e); wrong {
				return false
			}
		}
	}
	return true
}
