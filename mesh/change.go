package mesh

import (
	"slices"

	"gusset/api"
	"gusset/edge"
	"gusset/geom"
)

// kite is what lies about an edge: it goes from a to b in the triangle t, whose third corner is c; d is the third corner of the triangle u across. If there is none, u is -1.
type kite struct {
	t, u       int
	a, b, c, d int
}

// kiteOf is the kite about the edge k of the triangle t, which there is.
func kiteOf(m api.Mesh, sides edge.Sides, t int, k int) kite {
	way := edge.Of(m.Tris[t], k)
	out := kite{t: t, u: -1, a: way[0], b: way[1], c: edge.Facing(m.Tris[t], k)}
	if side, found := sides.Across(way); found {
		out.u, out.d = side.Tri, edge.Facing(m.Tris[side.Tri], side.K)
	}
	return out
}

// Flip turns an edge.
func Flip(m api.Mesh, t int, k int) (api.Mesh, api.Errno) {
	sides, e := sidesOf(m)
	if e != api.OK {
		return api.Mesh{}, e
	}
	if !hasEdge(m, t, k) {
		return api.Mesh{}, api.ErrArg
	}
	q := kiteOf(m, sides, t, k)
	first, second := api.Tri{q.d, q.b, q.c}, api.Tri{q.d, q.c, q.a}
	if q.u < 0 || segment(m, q) >= 0 || sides.Has(edge.Edge{q.c, q.d}) || !left(m, first) || !left(m, second) {
		return api.Mesh{}, api.ErrMesh
	}
	out := copied(m)
	out.Tris[q.t], out.Tris[q.u] = first, second
	return out, api.OK
}

// Split parts a triangle.
func Split(m api.Mesh, t int, p api.Point) (api.Mesh, api.Errno) {
	if e := Check(m); e != api.OK {
		return api.Mesh{}, e
	}
	if !hasTri(m, t) {
		return api.Mesh{}, api.ErrArg
	}
	a, b, c := m.Tris[t][0], m.Tris[t][1], m.Tris[t][2]
	where, e := geom.Within(m.Points[a], m.Points[b], m.Points[c], p)
	switch {
	case e != api.OK:
		return api.Mesh{}, e
	case where != 1:
		return api.Mesh{}, api.ErrMesh
	case isFull(m):
		return api.Mesh{}, api.ErrLimit
	}
	out, n := copied(m), len(m.Points)
	out.Points = append(out.Points, p)
	out.Tris[t] = api.Tri{a, b, n}
	out.Tris = append(out.Tris, api.Tri{b, c, n}, api.Tri{c, a, n})
	return out, api.OK
}

// Cut parts an edge.
func Cut(m api.Mesh, t int, k int, p api.Point) (api.Mesh, api.Errno) {
	sides, e := sidesOf(m)
	if e != api.OK {
		return api.Mesh{}, e
	}
	if !hasEdge(m, t, k) {
		return api.Mesh{}, api.ErrArg
	}
	q := kiteOf(m, sides, t, k)
	a, b := m.Points[q.a], m.Points[q.b]
	on, e := geom.On(a, b, p)
	switch {
	case e != api.OK:
		return api.Mesh{}, e
	case !on || p == a || p == b:
		return api.Mesh{}, api.ErrMesh
	case isFull(m):
		return api.Mesh{}, api.ErrLimit
	}
	return parted(m, q, p), api.OK
}

// parted is a mesh whose edge in the midst of a kite is parted at p.
func parted(m api.Mesh, q kite, p api.Point) api.Mesh {
	out, n := copied(m), len(m.Points)
	out.Points = append(out.Points, p)
	out.Tris[q.t] = api.Tri{q.a, n, q.c}
	out.Tris = append(out.Tris, api.Tri{n, q.b, q.c})
	if q.u >= 0 {
		out.Tris[q.u] = api.Tri{q.b, n, q.d}
		out.Tris = append(out.Tris, api.Tri{n, q.a, q.d})
	}
	if i := segment(m, q); i >= 0 {
		rest := m.Segs[i]
		rest.A = n
		out.Segs[i].B = n
		out.Segs = append(out.Segs, rest)
	}
	return out
}

// isFull tells whether there is no room in a mesh for a point more, or for the triangles that come with it.
func isFull(m api.Mesh) bool {
	return len(m.Points) >= api.MaxVerts || len(m.Tris) > api.MaxTris-2
}

// segment is the number of the segment that is the edge in the midst of a kite, -1 if there is none.
func segment(m api.Mesh, q kite) int {
	return slices.IndexFunc(m.Segs, func(s api.Seg) bool {
		return s.A == q.a && s.B == q.b || s.A == q.b && s.B == q.a
	})
}

// copied is the same mesh in memory of its own.
func copied(m api.Mesh) api.Mesh {
	out := api.Mesh{
		Points: make([]api.Point, len(m.Points)),
		Tris:   make([]api.Tri, len(m.Tris)),
		Segs:   make([]api.Seg, len(m.Segs)),
	}
	copy(out.Points, m.Points)
	copy(out.Tris, m.Tris)
	copy(out.Segs, m.Segs)
	return out
}
