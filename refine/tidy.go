package refine

import (
	"gusset/api"
	"gusset/edge"
	"gusset/weave"
)

// isTidy tells whether a mesh that may be is tidy.
func isTidy(m api.Mesh) bool {
	w := weave.Of(m)
	rim := []edge.Edge(nil) // the edges with nothing across
	for _, t := range m.Tris {
		for k := range t {
			e := edge.Of(t, k)
			if _, found := w.Across(e); found {
				continue
			}
			if !w.IsHeld(e) {
				return false
			}
			rim = append(rim, e)
		}
	}
	return w.Legal() && isFlat(m.Points, rim)
}
