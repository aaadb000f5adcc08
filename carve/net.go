package carve

import (
	"slices"

	"gusset/api"
	"gusset/edge"
	"gusset/span"
)

// fresh is the mark of triangles that nothing has come to.
const fresh = -1

// net is a mesh that may be, and where its edges and its segments stand.
type net struct {
	api.Mesh
	sides edge.Sides
	segs  map[edge.Edge]int // by its ends, the lesser number first, the number of a segment
}

// netOf is that of a mesh.
func netOf(m api.Mesh) net {
	sides, _ := edge.SidesOf(m.Tris)
	segs := make(map[edge.Edge]int, len(m.Segs))
	for i, s := range m.Segs {
		segs[edge.Edge{s.A, s.B}.Plain()] = i
	}
	return net{m, sides, segs}
}

// isSegment tells whether an edge is a segment.
func (n net) isSegment(e edge.Edge) bool {
	_, found := n.segs[e.Plain()]
	return found
}

// isFixed tells whether an edge is a Fixed segment.
func (n net) isFixed(e edge.Edge) bool {
	i, found := n.segs[e.Plain()]
	return found && n.Segs[i].Fixed
}

// isOpen tells whether a triangle has an edge that is no segment, and has nothing across.
func (n net) isOpen(t int) bool {
	for k := range n.Tris[t] {
		e := edge.Of(n.Tris[t], k)
		if _, found := n.sides.Across(e); !found && !n.isSegment(e) {
			return true
		}
	}
	return false
}

// holds tells whether a point lies in a triangle, or on its edges.
func (n net) holds(t int, p api.Point) bool {
	for k := range n.Tris[t] {
		e := edge.Of(n.Tris[t], k)
		if span.Turn(n.Points[e[0]], n.Points[e[1]], p) < 0 {
			return false
		}
	}
	return true
}

// marks are one for each triangle.
func (n net) marks() []int { return slices.Repeat([]int{fresh}, len(n.Tris)) }

// flood marks a triangle, and all to which one comes from there over edges that may be passed, as far as they do not have that mark.
func (n net) flood(marks []int, from int, mark int, mayPass func(edge.Edge) bool) {
	stack := []int{from}
	marks[from] = mark
	for len(stack) > 0 {
		t := n.Tris[stack[len(stack)-1]]
		stack = stack[:len(stack)-1]
		for k := range t {
			e := edge.Of(t, k)
			next, found := n.sides.Across(e)
			if !found || marks[next.Tri] == mark || !mayPass(e) {
				continue
			}
			marks[next.Tri] = mark
			stack = append(stack, next.Tri)
		}
	}
}

// roots are, of each triangle, the first one of those that it hangs together with.
func (n net) roots() []int {
	marks := n.marks()
	anyhow := func(edge.Edge) bool { return true }
	for t := range marks {
		if marks[t] == fresh {
			n.flood(marks, t, t, anyhow)
		}
	}
	return marks
}

// without is the mesh of the triangles that are not out, with no more points and segments than they have.
func (n net) without(marks []int) api.Mesh {
	rest := api.Mesh{}
	corners, edges := make([]int, len(n.Points)), make([]int, len(n.Segs)) // of how many of them each is one
	for t, tri := range n.Tris {
		if marks[t] == out {
			continue
		}
		rest.Tris = append(rest.Tris, tri)
		for k, v := range tri {
			corners[v]++
			if i, found := n.segs[edge.Of(tri, k).Plain()]; found {
				edges[i]++
			}
		}
	}
	numbers := make([]int, len(n.Points))
	for v, p := range n.Points {
		if corners[v] > 0 {
			numbers[v] = len(rest.Points)
			rest.Points = append(rest.Points, p)
		}
	}
	for i, tri := range rest.Tris {
		rest.Tris[i] = api.Tri{numbers[tri[0]], numbers[tri[1]], numbers[tri[2]]}
	}
	for i, s := range n.Segs {
		if edges[i] > 0 {
			rest.Segs = append(rest.Segs, api.Seg{A: numbers[s.A], B: numbers[s.B], Fixed: s.Fixed})
		}
	}
	return rest
}
