package refine

import (
	"cmp"
	"slices"

	"gusset/api"
	"gusset/edge"
	"gusset/span"
)

// How many triangles lie over a place is told by the edges with nothing across alone: at each other edge one triangle ends where the next begins. A line goes over the plane from the left to the right (and upward, where X is the same). Those edges that it meets, from below upward, must begin and end a triangle by turns.

// border is an edge with nothing across, from the left to the right.
type border struct {
	from, to api.Point
	last     int  // the rank of its end
	begins   bool // its triangle lies above it, else below
}

// isFlat tells whether triangles with that rim lie nowhere on one another.
func isFlat(points []api.Point, rim []edge.Edge) bool {
	order, ranks := ranked(points)
	starts := make([][]border, len(points))
	for _, e := range rim {
		a, b := e[0], e[1]
		if ranks[a] > ranks[b] {
			a, b = b, a
		}
		starts[ranks[a]] = append(starts[ranks[a]], border{points[a], points[b], ranks[b], a == e[0]})
	}
	met, fits := sweep(nil), true
	for rank, v := range order {
		if ranks[v] != rank { // another point in the same place, by which the line has come
			continue
		}
		if met, fits = met.past(points[v], rank, starts[rank]); !fits {
			return false
		}
	}
	return true
}

// ranked are the points' numbers in their order, and each point's rank there: the first one's of those that are one.
func ranked(points []api.Point) ([]int, []int) {
	order, ranks := make([]int, len(points)), make([]int, len(points))
	for i := range order {
		order[i] = i
	}
	slices.SortStableFunc(order, func(i, j int) int { return span.Order(points[i], points[j]) })
	for i, v := range order {
		ranks[v] = i
		if i > 0 && points[v] == points[order[i-1]] {
			ranks[v] = ranks[order[i-1]]
		}
	}
	return order, ranks
}

// sweep is the borders that the line meets, from below upward.
type sweep []border

// past is the sweep just behind the point p, at which some borders start; and whether they begin and end triangles by turns. If two have crossed, there are triangles on one another: that is told at the latest where the first of them ends, on the wrong side of the other one.
func (s sweep) past(p api.Point, rank int, starts []border) (sweep, bool) {
	parts, last := [3]sweep{}, 1 // above p, going on from there, below p
	parts[1] = append(parts[1], starts...)
	for _, b := range s {
		side := span.Turn(b.from, b.to, p)
		if side > last {
			return nil, false
		}
		last = side
		if side != 0 || b.last > rank {
			parts[side+1] = append(parts[side+1], b)
		}
	}
	slices.SortStableFunc(parts[1], func(a, b border) int {
		return cmp.Or(-span.Turn(p, a.to, b.to), a.order(b))
	})
	met := slices.Concat(parts[2], parts[1], parts[0])
	for i, b := range met {
		if b.begins != (i%2 == 0) {
			return nil, false
		}
	}
	return met, true
}

// order is that of borders that lie on one another: one at which a triangle ends is below one at which the next begins.
func (a border) order(b border) int {
	switch {
	case a.begins == b.begins:
		return 0
	case b.begins:
		return -1
	}
	return 1
}
