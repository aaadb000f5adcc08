package cdt

import (
	"slices"

	"gusset/api"
	"gusset/edge"
	"gusset/span"
	"gusset/weave"
)

// rail is a segment that is to become an edge of a web, and how far the points that it comes by lie from it.
type rail struct {
	web  *weave.Web
	a, b int
	way  span.Span
	seen map[int]height
}

// height is how far a point lies from a rail, over its unit, times something that is the same for all: above 0 to the left, below 0 to the right.
type height struct {
	over span.Number
	unit span.Number
}

// lay makes a segment an edge that is held. It can't, if a point lies on it, or a segment that was laid ahead has the same ends, or crosses it. (As all points are corners, no two segments can meet in another way.)
func lay(w *weave.Web, s api.Seg) bool {
	line := edge.Edge{s.A, s.B}
	if w.IsHeld(line) {
		return false
	}
	if !w.Has(line) {
		r := rail{w, s.A, s.B, span.Of(w.Points[s.A], w.Points[s.B]), map[int]height{}}
		crossed, free := r.crossed()
		if !free {
			return false
		}
		r.clear(crossed)
	}
	w.Hold(line)
	return true
}

// height is that of the point v.
func (r *rail) height(v int) height {
	h, found := r.seen[v]
	if !found {
		to := span.Of(r.web.Points[r.a], r.web.Points[v])
		h = height{r.way.Cross(to), to.Unit}
		r.seen[v] = h
	}
	return h
}

// side is on which side of the rail the point v lies: 1 to the left, -1 to the right, 0 if it lies in its line.
func (r *rail) side(v int) int { return r.height(v).over.Sign() }

// farther tells whether u lies farther from the rail than v. Of two as far it is the one behind the other in their order: so one of many that are as far lies at the end of their row.
func (r *rail) farther(u int, v int) bool {
	first, second := r.height(u), r.height(v)
	more := first.over.Size().Times(second.unit).Minus(second.over.Size().Times(first.unit)).Sign()
	return more > 0 || more == 0 && span.Order(r.web.Points[u], r.web.Points[v]) > 0
}

// first is the edge over which the rail leaves the triangles about its beginning, from the right to the left. If there is none, it runs along an edge there, to a point that lies on it.
func (r *rail) first() (edge.Edge, bool) {
	for _, t := range r.web.Tris {
		k := slices.Index(t[:], r.a)
		if k < 0 {
			continue
		}
		e := edge.Edge{t[(k+1)%3], t[(k+2)%3]}
		if r.side(e[0]) < 0 && r.side(e[1]) > 0 {
			return e, true
		}
	}
	return edge.Edge{}, false
}

// crossed are the edges that cross the rail, from its beginning on, each from the right to the left; and whether it comes to its end by such that are not held, and by no point.
func (r *rail) crossed() ([]edge.Edge, bool) {
	out := []edge.Edge(nil)
	e, found := r.first()
	if !found {
		return nil, false
	}
next:
	if r.web.IsHeld(e) {
		return nil, false
	}
	out = append(out, e)
	k, _ := r.web.Kite(e)
	side := r.side(k.D)
	switch {
	case k.D == r.b:
		return out, true
	case side > 0:
		e[1] = k.D
		goto next
	case side < 0:
		e[0] = k.D
		goto next
	}
	return nil, false
}

// clear turns edges that cross the rail, until there are none. What comes instead is the rail itself in the end, and else lies about a kite that is turned later: so it is in doubt by then.
func (r *rail) clear(queue []edge.Edge) {
	for len(queue) > 0 {
		e := queue[0]
		queue = queue[1:]
		k, _ := r.web.Kite(e)
		if !r.mayTurn(k) {
			queue = append(queue, e)
			continue
		}
		r.web.Turn(k)
		if after := k.Turned(); r.crosses(after) {
			queue = append(queue, after)
		}
	}
}

// crosses tells whether an edge of triangles through which the rail goes crosses it.
func (r *rail) crosses(e edge.Edge) bool { return r.side(e[0])*r.side(e[1]) < 0 }

// mayTurn tells whether the edge of a kite is to be turned. One that would cross the rail again is, only if it ends at that corner of the kite which lies farthest from the rail: so that one loses an edge, and nothing is turned to and fro for ever. It never comes to a stop: of all corners that have edges across the rail the farthest sticks out, and so does the farthest one across from it.
func (r *rail) mayTurn(k weave.Kite) bool {
	if r.crosses(k.Turned()) {
		if far := r.farthest(k.A, k.B, k.C, k.D); far != k.A && far != k.B {
			return false
		}
	}
	return r.web.Convex(k)
}

// farthest is the point that lies farthest from the rail.
func (r *rail) farthest(first int, others ...int) int {
	for _, v := range others {
		if r.farther(v, first) {
			first = v
		}
	}
	return first
}
