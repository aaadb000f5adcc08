package refine

import (
	"slices"

	"gusset/api"
	"gusset/cons"
	"gusset/edge"
	"gusset/span"
)

// finding is what a triangle was found to be.
type finding struct {
	blunt int
	bad   bool
	log   int // that of its circle's radius, squared, if it is bad
}

// work is what is to be done to a net.
type work struct {
	*net
	limits []limit
	picks  []int // those that have not chosen as yet
	found  map[api.Tri]finding
}

// look is what a triangle is. It is found out once.
func (w *work) look(t api.Tri) finding {
	f, found := w.found[t]
	if !found {
		s := shapeOf(w.Points, t)
		f = finding{blunt: s.blunt(), bad: s.isBad(w.limits)}
		if f.bad {
			f.log = length2(s.toCentre()).log()
		}
		w.found[t] = f
	}
	return f
}

// refine puts points in until nothing is crowded or bad; it can't, if there are as many as there may be ahead of that, or one has too long a number. As long as a segment is crowded, no triangle is mended: then none of the points that are put into triangles ever crowds a segment, and those on segments are as far from it as the plan lets them be.
func (w *work) refine(budget int) bool {
	blunt := func(t api.Tri) int { return w.look(t).blunt }
	for {
		next, step := w.crowded(blunt), w.part
		if len(next) == 0 {
			next, step = w.bad(), w.mend
		}
		if len(next) == 0 {
			return true
		}
		if len(w.Points) >= budget || !step(w.pick(next)) {
			return false
		}
	}
}

// bad are the numbers of the bad triangles: the one with the greatest circle first, for where there is most room the fewest points are needed.
func (w *work) bad() []int {
	out, greatest := []int(nil), 0
	for i, t := range w.Tris {
		f := w.look(t)
		if !f.bad {
			continue
		}
		out = append(out, i)
		if f.log > w.look(w.Tris[out[greatest]]).log {
			greatest = len(out) - 1
		}
	}
	if len(out) > 0 {
		out[0], out[greatest] = out[greatest], out[0]
	}
	return out
}

// pick is the one that the next of the picks chooses, the first one if there is none left.
func (w *work) pick(l []int) int {
	if len(w.picks) == 0 {
		return l[0]
	}
	i := w.picks[0] % len(l)
	w.picks = w.picks[1:]
	return l[max(i, -i)]
}

// mend puts a point in near the centre of a bad triangle's circle, or parts a segment that keeps it from there. The first point that leaves room enough is taken, and the nearer ones, whose numbers are longer, are not asked for.
func (w *work) mend(t int) bool {
	s := shapeOf(w.Points, w.Tris[t])
	centre, _ := cons.Centre(s.corners[0], s.corners[1], s.corners[2])
	room2 := s.room2(w.limits)
	for p := range nearer(centre, w.look(w.Tris[t]).log) {
		if w.try(t, p, room2) {
			return true
		}
	}
	return false
}

// try puts a point into the circle of the triangle t, or parts a segment that is in its way, or that it would crowd; if that leaves no room, nothing is done.
func (w *work) try(t int, p api.Point, room2 amount) bool {
	at, k, blocked := w.Seek(t, p)
	if k >= 0 {
		if e := edge.Of(w.Tris[at], k); blocked || w.IsHeld(e) {
			return w.giveWay(room2, e)
		}
	}
	kept, v := w.Copy(), len(w.Points)
	w.Points = append(w.Points, p)
	w.Put(v, at, k)
	walls, near2 := w.about(v)
	if len(walls) == 0 && !near2.isBelow(room2) {
		return true
	}
	w.Web = kept
	return w.giveWay(room2, walls...)
}

// about are the segments that the point v crowds, and how far the nearest of the points is with which it has an edge, squared.
func (w *work) about(v int) ([]edge.Edge, amount) {
	walls, lengths := []edge.Edge(nil), []amount(nil)
	for _, t := range w.Tris {
		k := slices.Index(t[:], v)
		if k < 0 {
			continue
		}
		s, facing := shapeOf(w.Points, t), (k+1)%3
		lengths = append(lengths, length2(s.edges[k]), length2(s.edges[(k+2)%3]))
		if e := edge.Of(t, facing); w.IsHeld(e) && s.blunt() == facing {
			walls = append(walls, e)
		}
	}
	return walls, least(lengths[0], lengths[1:]...)
}

// giveWay parts the first of some segments whose halves have room enough, if there is one.
func (w *work) giveWay(room2 amount, walls ...edge.Edge) bool {
	for _, e := range walls {
		whole2 := length2(span.Of(w.Points[e[0]], w.Points[e[1]]))
		if !whole2.half().half().isBelow(room2) {
			return w.part(w.numbers[e.Plain()])
		}
	}
	return false
}
