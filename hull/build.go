package hull

import (
	"cmp"
	"math/bits"
	"slices"

	"gusset/api"
	"gusset/edge"
	"gusset/weave"
)

// Build triangulates points.
func Build(l []api.Point) (api.Mesh, api.Errno) {
	round, inner, e := surveyed(l)
	if e != api.OK {
		return api.Mesh{}, e
	}
	w := weave.Of(api.Mesh{Points: l})
	fill(w, round)
	w.Settle(-1)
	for _, v := range scattered(inner) {
		t, k, _ := w.Seek(len(w.Tris)-1, l[v])
		w.Put(v, t, k)
	}
	return api.Mesh{Points: w.Points, Tris: w.Tris}, api.OK
}

// fill lays triangles over a polygon of corners that turn to the left: one to its middle, and so on in both halves. Over points on a circle, as they may be, that is right already; over others it is nearer to it than a fan would be.
func fill(w *weave.Web, corners []int) {
	if len(corners) < 3 {
		return
	}
	last, middle := len(corners)-1, len(corners)/2
	t := api.Tri{corners[0], corners[middle], corners[last]}
	w.Lay(t)
	w.Doubt(edge.Of(t, 0), edge.Of(t, 1))
	fill(w, corners[:middle+1])
	fill(w, corners[middle:])
}

// scattered are points ranged otherwise: by their places' bits, the lowest first, so that each comes far from the ones just ahead of it. From the left to the right each would have edges to most of those that are there, which would be turned again for the next one.
func scattered(l []int) []int {
	places := make([]int, len(l))
	for i := range places {
		places[i] = i
	}
	slices.SortFunc(places, func(i, j int) int {
		return cmp.Compare(bits.Reverse(uint(i)), bits.Reverse(uint(j)))
	})
	for i, place := range places {
		places[i] = l[place]
	}
	return places
}
