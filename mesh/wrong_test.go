package mesh_test

import (
	"math"
	"slices"
	"strings"
	"testing"

	"gusset/api"
	"gusset/mesh"
	"gusset/rat"
	"gusset/whole"
)

// question is what a call is asked.
type question struct {
	m    api.Mesh
	t, k int
	p    api.Point
}

// call is one of the chapter's: it tells its error, and whether all else that it answers is a zero value.
type call struct {
	name string
	ask  func(q question) (api.Errno, bool)
}

// calls are all of them. Split is asked about the triangle alone.
func calls() []call {
	none := func(m api.Mesh) bool { return len(m.Points)+len(m.Tris)+len(m.Segs) == 0 }
	return []call{
		{"Check", func(q question) (api.Errno, bool) { return mesh.Check(q.m), true }},
		{"Edges", func(q question) (api.Errno, bool) { l, e := mesh.Edges(q.m); return e, len(l) == 0 }},
		{"Area2", func(q question) (api.Errno, bool) { x, e := mesh.Area2(q.m); return e, x == api.Rat{} }},
		{"Across", func(q question) (api.Errno, bool) { u, k, e := mesh.Across(q.m, q.t, q.k); return e, u == 0 && k == 0 }},
		{"Flip", func(q question) (api.Errno, bool) { m, e := mesh.Flip(q.m, q.t, q.k); return e, none(m) }},
		{"Split", func(q question) (api.Errno, bool) { m, e := mesh.Split(q.m, q.t, q.p); return e, none(m) }},
		{"Cut", func(q question) (api.Errno, bool) { m, e := mesh.Cut(q.m, q.t, q.k, q.p); return e, none(m) }},
	}
}

// wrongPoint is one that may not be asked.
type wrongPoint struct {
	p api.Point
	e api.Errno
}

// wrongPoints are such: too long, not in their one form, and both.
func wrongPoints() []wrongPoint {
	good := rat.Of(1)
	nat := func(n int) api.Nat { return api.Nat(strings.Repeat("\x01", n)) }
	longWhole, longPart := api.Rat{Num: api.Int{Mag: nat(101)}, Den: "\x01"}, api.Rat{Num: whole.Of(1), Den: nat(101)}
	uncut, negative := api.Rat{Num: whole.Of(2), Den: "\x04"}, api.Rat{Num: api.Int{Neg: true}, Den: "\x01"}
	out := []wrongPoint(nil)
	for _, long := range []api.Rat{longWhole, longPart, {Num: whole.Of(1), Den: nat(8001)}} {
		out = append(out, wrongPoint{api.Point{X: long, Y: good}, api.ErrLimit}, wrongPoint{api.Point{X: good, Y: long}, api.ErrLimit})
		out = append(out, wrongPoint{api.Point{X: uncut, Y: long}, api.ErrLimit}, wrongPoint{api.Point{X: long, Y: uncut}, api.ErrLimit})
	}
	for _, wrong := range []api.Rat{uncut, negative, {}, {Num: whole.Of(1), Den: "\x00\x01"}, {Num: api.Int{Mag: "\x00\x01"}, Den: "\x01"}} {
		out = append(out, wrongPoint{api.Point{X: wrong, Y: good}, api.ErrArg}, wrongPoint{api.Point{X: good, Y: wrong}, api.ErrArg})
	}
	return out
}

// TestWrongPoints puts one or two points that may not be asked in every place of a mesh, whose triangles are wrong, too: the first one's error is told.
func TestWrongPoints(t *testing.T) {
	wrong := wrongPoints()
	for _, c := range calls() {
		for _, w := range wrong {
			for _, other := range wrong {
				for first := range 4 {
					for second := first; second < 4; second++ {
						q := question{square(), 9, 9, other.p}
						q.m.Tris[0] = api.Tri{-1, 0, 4}
						q.m.Points[second] = other.p
						q.m.Points[first] = w.p
						if e, none := c.ask(q); e != w.e || !none {
							t.Fatalf("P11.1: %s, point %d: error %d, not %d; nothing else: %v", c.name, first, e, w.e, none)
						}
					}
				}
			}
			if e, none := c.ask(question{m: api.Mesh{Points: []api.Point{w.p}}}); e != w.e || !none {
				t.Errorf("P11.1: %s, one wrong point alone: error %d, not %d", c.name, e, w.e)
			}
		}
	}
}

// TestWrongPart asks for a part at a point that may not be asked, ahead of where it lies, and behind the numbers of triangle and edge.
func TestWrongPart(t *testing.T) {
	full := crowd(400, 900, 10)
	for _, w := range wrongPoints() {
		for _, m := range []api.Mesh{square(), full} {
			if out, e := mesh.Split(m, 0, w.p); e != w.e || !sameMesh(out, api.Mesh{}) {
				t.Errorf("P11.4: error %d, not %d", e, w.e)
			}
			if out, e := mesh.Cut(m, 0, 0, w.p); e != w.e || !sameMesh(out, api.Mesh{}) {
				t.Errorf("P11.5: error %d, not %d", e, w.e)
			}
		}
		if _, e := mesh.Split(square(), 2, w.p); e != api.ErrArg {
			t.Errorf("P11.4: no such triangle: error %d", e)
		}
		if _, e := mesh.Cut(square(), 0, 3, w.p); e != api.ErrArg {
			t.Errorf("P11.5: no such edge: error %d", e)
		}
	}
}

// TestWrongNumbers asks every call about triangles and edges that there are not.
func TestWrongNumbers(t *testing.T) {
	for _, c := range calls()[3:] {
		for _, wrong := range []int{-1, 2, 3, 1000, math.MaxInt, math.MinInt} {
			if e, none := c.ask(question{square(), wrong, 0, at(1, 1)}); e != api.ErrArg || !none {
				t.Errorf("P11.2 to P11.5: %s of triangle %d: error %d", c.name, wrong, e)
			}
			if wrong == 2 || c.name == "Split" {
				continue
			}
			if e, none := c.ask(question{square(), 0, wrong, at(1, 1)}); e != api.ErrArg || !none {
				t.Errorf("P11.2 to P11.5: %s of edge %d: error %d", c.name, wrong, e)
			}
		}
	}
}

// slip is something wrong that can be put into a question: what is told of it, if it is the first, and by which calls.
type slip struct {
	e   api.Errno
	of  string
	put func(q *question)
}

// slips are all of them, in the order in which they are told.
func slips() []slip {
	const all, edges, parts = "Check Edges Area2 Across Flip Split Cut", "Across Flip Cut", "Split Cut"
	long := api.Rat{Num: whole.Of(1), Den: api.Nat(strings.Repeat("\x01", 101))}
	return []slip{
		{api.ErrLimit, all, func(q *question) { q.m.Segs = append(q.m.Segs, make([]api.Seg, 1300)...) }},
		{api.ErrArg, all, func(q *question) { q.m.Points[5].Y = api.Rat{} }},
		{api.ErrLimit, all, func(q *question) { q.m.Points[6].X = long }},
		{api.ErrMesh, all, func(q *question) { q.m.Segs[3] = q.m.Segs[2] }},
		{api.ErrArg, edges + " Split", func(q *question) { q.t = len(q.m.Tris) }},
		{api.ErrArg, edges, func(q *question) { q.k = 3 }},
		{api.ErrLimit, parts, func(q *question) { q.p.Y = long }},
		{api.ErrArg, parts, func(q *question) { q.p.X = api.Rat{} }},
		{api.ErrMesh, parts, func(q *question) { q.p = api.Point{X: q.p.X, Y: rat.Of(-70)} }},
		{api.ErrLimit, parts, func(q *question) { q.m.Points = append(q.m.Points, at(-9, -9)) }},
	}
}

// TestFirstOfSeveral puts each set of slips into a question: the first one that the call's promise names is told. (A point that is both too long and not in its one form is too long.)
func TestFirstOfSeveral(t *testing.T) {
	all := slips()
	for _, c := range calls() {
		for set := range 1 << len(all) {
			q, want := question{m: crowd(399, 20, 30)}, api.OK
			q.p = weighed(corners(q.m, 0, 0), 1, 1)
			if c.name == "Split" {
				q.p = weighed(corners(q.m, 0, 0), 1, 1, 1)
			}
			if c.name == "Flip" {
				want = api.ErrMesh // nothing lies across
			}
			for i := len(all) - 1; i >= 0; i-- {
				if set>>i&1 != 0 {
					all[i].put(&q)
					if slices.Contains(strings.Fields(all[i].of), c.name) {
						want = all[i].e
					}
				}
			}
			if e, none := c.ask(q); e != want || e != api.OK && !none {
				t.Fatalf("R2: %s of the set %b: error %d, not %d", c.name, set, e, want)
			}
		}
	}
}

// roomy is a mesh whose lists have spare room, which is filled.
func roomy(m api.Mesh) api.Mesh {
	points := append(slices.Clone(m.Points), at(71, 71), at(72, 72), at(73, 73))
	tris := append(slices.Clone(m.Tris), api.Tri{71, 71, 71}, api.Tri{72, 72, 72}, api.Tri{73, 73, 73})
	segs := append(slices.Clone(m.Segs), api.Seg{A: 71}, api.Seg{A: 72}, api.Seg{A: 73})
	return api.Mesh{Points: points[:len(m.Points)], Tris: tris[:len(m.Tris)], Segs: segs[:len(m.Segs)]}
}

// entire is a mesh with what is in its spare room.
func entire(m api.Mesh) api.Mesh {
	return api.Mesh{Points: m.Points[:cap(m.Points)], Tris: m.Tris[:cap(m.Tris)], Segs: m.Segs[:cap(m.Segs)]}
}

// spoil overwrites a mesh, and its spare room.
func spoil(m api.Mesh) {
	m = entire(m)
	for i := range m.Points {
		m.Points[i] = at(99, 99)
	}
	for i := range m.Tris {
		m.Tris[i] = api.Tri{99, 99, 99}
	}
	for i := range m.Segs {
		m.Segs[i] = api.Seg{A: 99, B: 99}
	}
}

// given is the mesh that the calls are handed below.
func given() api.Mesh {
	m := square()
	m.Segs = []api.Seg{{A: 0, B: 1, Fixed: true}, {A: 3, B: 2}}
	return roomy(m)
}

// TestKeptAsGiven holds that what is handed in, and what is in its spare room, is as it was behind every call.
func TestKeptAsGiven(t *testing.T) {
	m := given()
	for _, c := range calls() {
		for i := range 3 {
			c.ask(question{m, i, 2, at(1, 1)})
			c.ask(question{m, i, 0, at(1, 0)})
			c.ask(question{m, i, 2, weighed(m.Points, 1, 1, 1)})
			if !sameMesh(entire(m), entire(given())) {
				t.Fatalf("R5: %s has changed what it was given", c.name)
			}
		}
	}
}

// TestNewMemory holds that what is answered shares no memory with what was handed in: either is spoiled, and the other stays; and that the same is answered again.
func TestNewMemory(t *testing.T) {
	for i, change := range []func(m api.Mesh) (api.Mesh, api.Errno){
		func(m api.Mesh) (api.Mesh, api.Errno) { return mesh.Flip(m, 0, 2) },
		func(m api.Mesh) (api.Mesh, api.Errno) { return mesh.Split(m, 0, weighed(m.Points, 1, 1, 1)) },
		func(m api.Mesh) (api.Mesh, api.Errno) { return mesh.Cut(m, 0, 2, at(1, 1)) },
		func(m api.Mesh) (api.Mesh, api.Errno) { return mesh.Cut(m, 0, 0, at(1, 0)) },
		func(m api.Mesh) (api.Mesh, api.Errno) { return mesh.Cut(m, 0, 1, at(2, 1)) },
	} {
		m := given()
		out, e := change(m)
		first := cloned(out)
		spoil(m)
		if !sameMesh(out, first) || e != api.OK {
			t.Errorf("R5: change %d: the answer hangs on what was handed in; error %d", i, e)
		}
		m = given()
		out, e = change(m)
		if !sameMesh(out, first) || e != api.OK {
			t.Errorf("R6: change %d again: error %d", i, e)
		}
		spoil(out)
		if !sameMesh(entire(m), entire(given())) {
			t.Errorf("R5: change %d: what was handed in hangs on the answer", i)
		}
	}
	l, _ := mesh.Edges(given())
	first := slices.Clone(l)
	clear(l[:cap(l)])
	if again, e := mesh.Edges(given()); !slices.Equal(again, first) || e != api.OK {
		t.Errorf("R6: Edges again: %v, error %d", again, e)
	}
}
