package refine

import (
	"iter"

	"gusset/api"
	"gusset/span"
)

// limit is a Size, as amounts.
type limit struct {
	centre api.Point
	within amount
	most   amount
}

// limitsOf are those of sizes that may be.
func limitsOf(sizes []api.Size) []limit {
	out := []limit(nil)
	for _, s := range sizes {
		out = append(out, limit{s.Centre, amountOf(s.Within2), amountOf(s.Most2)})
	}
	return out
}

// shape is a triangle: its corners, which turn to the left, and the ways along its edges.
type shape struct {
	corners [3]api.Point
	edges   [3]span.Span
}

// shapeOf is that of a triangle over points.
func shapeOf(points []api.Point, t api.Tri) shape {
	s := shape{corners: [3]api.Point{points[t[0]], points[t[1]], points[t[2]]}}
	for k, p := range s.corners {
		s.edges[k] = span.Of(p, s.corners[(k+1)%3])
	}
	return s
}

// blunt is the edge that faces an angle above 90 degrees: the corner there lies within its disc. It is -1, if there is none; there can't be two.
func (s shape) blunt() int {
	for k := range s.edges {
		to, from := s.edges[(k+1)%3], s.edges[(k+2)%3]
		if to.Dot(from).Sign() > 0 {
			return k
		}
	}
	return -1
}

// isSlender tells whether cons.Ratio2 is above 2. The circle's radius is half of the shortest edge, divided by the sine of the angle that faces it: so that sine, squared, is below an eighth. If another angle's is, it is the greatest one's, and then those of both others are.
func (s shape) isSlender() bool {
	for k, u := range s.edges {
		v := s.edges[(k+1)%3]
		area := u.Cross(v)
		twice := area.Plus(area)
		fourfold := twice.Times(twice)
		if fourfold.Plus(fourfold).Minus(u.Square().Times(v.Square())).Sign() < 0 {
			return true
		}
	}
	return false
}

// toCentre is the way from the first corner to the centre of the circle.
func (s shape) toCentre() span.Span {
	way, _ := span.ToCentre(s.corners[0], s.corners[1], s.corners[2])
	return way
}

// great yields those limits for which a triangle is great.
func (s shape) great(limits []limit) iter.Seq[limit] {
	return func(yield func(limit) bool) {
		if len(limits) == 0 {
			return
		}
		way := s.toCentre()
		radius2 := length2(way)
		for _, l := range limits {
			if !l.most.isBelow(radius2) {
				continue
			}
			far2 := length2(span.Of(l.centre, s.corners[0]).Plus(way))
			if !l.within.isBelow(far2) && !yield(l) {
				return
			}
		}
	}
}

// isBad tells whether a triangle is slender, or great for some limit.
func (s shape) isBad(limits []limit) bool {
	if s.isSlender() {
		return true
	}
	for range s.great(limits) {
		return true
	}
	return false
}

// room2 is how long, squared, all edges are to be at least that come of mending a bad triangle: as its shortest one, if it is slender; half of what a limit lets its circle's radius be, squared. A point in the midst of its circle has more room than that, and so have the parts of a segment that keeps it from there: no end of it lies within the circle, and the point lies within its disc, so that half of it is at least the radius, divided by the root of 2.
func (s shape) room2(limits []limit) amount {
	found := []amount(nil)
	if s.isSlender() {
		found = append(found, length2(s.edges[0]), length2(s.edges[1]), length2(s.edges[2]))
	}
	for l := range s.great(limits) {
		found = append(found, l.most.half())
	}
	return least(found[0], found[1:]...)
}
