package plan

import (
	"iter"

	"gusset/api"
	"gusset/cons"
	"gusset/geom"
	"gusset/rat"
)

// least is the least of distances, of which there is one.
func least(distances iter.Seq[api.Rat]) api.Rat {
	zero := rat.Of(0)
	out, found := zero, false
	for x := range distances {
		if !found || below(x, out) {
			out, found = x, true
		}
		if out == zero { // none is below, so the others need not be reckoned
			break
		}
	}
	return out
}

// segmentsApart yields distances of two segments, squared, the least among them: 0, if they meet; else one of them has an end that is as near to the other one as any of its points.
func segmentsApart(a api.Point, b api.Point, c api.Point, d api.Point) iter.Seq[api.Rat] {
	return func(yield func(api.Rat) bool) {
		if meet(a, b, c, d) {
			yield(rat.Of(0))
			return
		}
		for _, p := range [2]api.Point{a, b} {
			if !yield(near2(c, d, p)) {
				return
			}
		}
		for _, p := range [2]api.Point{c, d} {
			if !yield(near2(a, b, p)) {
				return
			}
		}
	}
}

// net is points, and segments that join them.
type net struct {
	points []api.Point
	segs   []api.Seg
}

// distances yields all that Least2 is the least of. Segments come first: that they meet is soon told, and then there is nothing else to reckon.
func (n net) distances(yield func(api.Rat) bool) {
	for _, part := range [...]iter.Seq[api.Rat]{n.ofSegments, n.ofPoints, n.ofBoth} {
		for x := range part {
			if !yield(x) {
				return
			}
		}
	}
}

// ofSegments yields the distances of segments without a common end that meet. Those of the others are among the ones that ofBoth yields, for no end of either is an end of the other one.
func (n net) ofSegments(yield func(api.Rat) bool) {
	for i, s := range n.segs {
		for _, t := range n.segs[:i] {
			if ends(s, t.A) || ends(s, t.B) || !meet(n.points[s.A], n.points[s.B], n.points[t.A], n.points[t.B]) {
				continue
			}
			if !yield(rat.Of(0)) {
				return
			}
		}
	}
}

// ofPoints yields the distances of two points.
func (n net) ofPoints(yield func(api.Rat) bool) {
	for i, p := range n.points {
		for _, q := range n.points[:i] {
			x, _ := cons.Far2(p, q)
			if !yield(x) {
				return
			}
		}
	}
}

// ofBoth yields the distances of a segment and a point that is no end of it.
func (n net) ofBoth(yield func(api.Rat) bool) {
	for _, s := range n.segs {
		for v, p := range n.points {
			if !ends(s, v) && !yield(near2(n.points[s.A], n.points[s.B], p)) {
				return
			}
		}
	}
}

// meet tells whether two segments have a point in common, whose ends may be asked.
func meet(a api.Point, b api.Point, c api.Point, d api.Point) bool {
	how, _ := geom.Meet(a, b, c, d)
	return how != 0
}

// near2 is cons.Near2 of points that may be asked.
func near2(a api.Point, b api.Point, p api.Point) api.Rat {
	x, _ := cons.Near2(a, b, p)
	return x
}
