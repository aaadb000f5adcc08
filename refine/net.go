package refine

import (
	"slices"

	"gusset/api"
	"gusset/cons"
	"gusset/edge"
	"gusset/weave"
)

// maxSegs is how many segments a mesh may have.
const maxSegs = 1300

// net is a web of a mesh, whose segments are held, and which these are.
type net struct {
	*weave.Web
	segs    []api.Seg
	numbers map[edge.Edge]int // of each segment, by its ends, the lesser number first
}

// netOf is that of a mesh that may be.
func netOf(m api.Mesh) *net {
	n := &net{Web: weave.Of(m), numbers: make(map[edge.Edge]int, len(m.Segs))}
	for _, s := range m.Segs {
		n.segs = append(n.segs, s)
		n.number(len(n.segs) - 1)
	}
	return n
}

// number notes where a segment stands.
func (n *net) number(i int) { n.numbers[along(n.segs[i]).Plain()] = i }

// along is a segment as an edge.
func along(s api.Seg) edge.Edge { return edge.Edge{s.A, s.B} }

// crowded are the numbers of the crowded segments, rising, if one is told of each triangle which edge is blunt.
func (n *net) crowded(blunt func(api.Tri) int) []int {
	out := []int(nil)
	for _, t := range n.Tris {
		k := blunt(t)
		if k < 0 {
			continue
		}
		if i, found := n.numbers[edge.Of(t, k).Plain()]; found {
			out = append(out, i)
		}
	}
	slices.Sort(out)
	return slices.Compact(out) // both sides may crowd one
}

// part puts a point in the middle of a segment. It can't, if that has too long a number. (Nor if there were too many segments then: but for meshes in which many points have one place, 400 points do not have so many.)
func (n *net) part(i int) bool {
	s, v := n.segs[i], len(n.Points)
	middle, _ := cons.Middle(n.Points[s.A], n.Points[s.B])
	if isLong(middle) || len(n.segs) >= maxSegs {
		return false
	}
	n.Points = append(n.Points, middle)
	n.Cut(along(s), v)
	n.Settle(v)
	delete(n.numbers, along(s).Plain())
	n.segs[i].B = v
	n.segs = append(n.segs, api.Seg{A: v, B: s.B, Fixed: s.Fixed})
	n.number(i)
	n.number(len(n.segs) - 1)
	return true
}
