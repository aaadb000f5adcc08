package locate_test

import (
	"math"
	"slices"
	"strings"
	"testing"

	"gusset/api"
	"gusset/locate"
	"gusset/rat"
	"gusset/whole"
)

// question is what a call is asked.
type question struct {
	m    api.Mesh
	t, v int
	u    []api.Rat
	p    api.Point
}

// plain is one that can be answered by all calls.
func plain() question {
	return question{square(), 1, 2, []api.Rat{rat.Of(1), rat.Of(2), rat.Of(3), rat.Of(4)}, at(1, 1)}
}

// call is one of the chapter's: it tells its error, and whether all else that it answers is a zero value.
type call struct {
	name string
	ask  func(q question) (api.Errno, bool)
}

func calls() []call {
	return []call{
		{"At", func(q question) (api.Errno, bool) { t, w, e := locate.At(q.m, q.p); return e, t == 0 && w == 0 }},
		{"Walk", func(q question) (api.Errno, bool) { l, e := locate.Walk(q.m, q.t, q.p); return e, len(l) == 0 }},
		{"Fan", func(q question) (api.Errno, bool) { l, e := locate.Fan(q.m, q.v); return e, len(l) == 0 }},
		{"Value", func(q question) (api.Errno, bool) {
			x, in, e := locate.Value(q.m, q.u, q.p)
			return e, x == api.Rat{} && !in
		}},
	}
}

// wrongRat is a number that may not be: as a point's, and as a value.
type wrongRat struct {
	x       api.Rat
	asPoint api.Errno
	asValue api.Errno
}

func wrongRats() []wrongRat {
	nat := func(n int) api.Nat { return api.Nat(strings.Repeat("\x01", n)) }
	return []wrongRat{
		{api.Rat{Num: api.Int{Mag: nat(101)}, Den: "\x01"}, api.ErrLimit, api.OK}, {api.Rat{Num: whole.Of(1), Den: nat(101)}, api.ErrLimit, api.OK},
		{api.Rat{Num: api.Int{Mag: nat(8001)}, Den: "\x01"}, api.ErrLimit, api.ErrLimit}, {api.Rat{Num: whole.Of(1), Den: nat(8001)}, api.ErrLimit, api.ErrLimit},
		{api.Rat{Num: whole.Of(2), Den: "\x04"}, api.ErrArg, api.ErrArg}, {api.Rat{Num: api.Int{Neg: true}, Den: "\x01"}, api.ErrArg, api.ErrArg},
		{api.Rat{}, api.ErrArg, api.ErrArg}, {api.Rat{Num: whole.Of(1), Den: "\x00\x01"}, api.ErrArg, api.ErrArg}, {api.Rat{Num: api.Int{Mag: "\x00\x01"}, Den: "\x01"}, api.ErrArg, api.ErrArg},
	}
}

// TestWrongPoints puts one or two points that may not be asked in every place of a mesh, and asks about such: the mesh's first one's error is told, ahead of all else; the point's behind.
func TestWrongPoints(t *testing.T) {
	good := rat.Of(1)
	for _, c := range calls() {
		for _, w := range wrongRats() {
			for _, other := range wrongRats() {
				for place := range 16 {
					first, second := place%4, place/4
					if second < first {
						continue
					}
					q := question{square(), 9, 9, nil, api.Point{X: other.x, Y: good}}
					q.m.Tris[0] = api.Tri{0, 2, 1}
					q.m.Points[second] = api.Point{X: good, Y: other.x}
					q.m.Points[first] = api.Point{X: w.x, Y: good}
					if e, none := c.ask(q); e != w.asPoint || !none {
						t.Fatalf("%s, point %d: error %d, not %d", c.name, first, e, w.asPoint)
					}
				}
			}
			for k := range 2 {
				q := plain()
				if k == 0 {
					q.p.X = w.x
				} else {
					q.p.Y = w.x
				}
				want := w.asPoint
				if c.name == "Fan" {
					want = api.OK
				}
				if e, none := c.ask(q); e != want || e != api.OK && !none {
					t.Errorf("P12.1, P12.2, P12.4: %s of a wrong point: error %d, not %d", c.name, e, want)
				}
			}
		}
		q := plain()
		q.p = api.Point{X: api.Rat{}, Y: api.Rat{Num: whole.Of(1), Den: api.Nat(strings.Repeat("\x01", 101))}}
		if e, _ := c.ask(q); c.name != "Fan" && e != api.ErrLimit {
			t.Errorf("P12.1, P12.2, P12.4: %s of a point that is wrong and too long: error %d", c.name, e)
		}
	}
}

// TestWrongMeshes asks about meshes that may not be.
func TestWrongMeshes(t *testing.T) {
	for i, c := range []struct {
		put  func(m *api.Mesh)
		want api.Errno
	}{
		{func(m *api.Mesh) { m.Tris[1] = api.Tri{0, 3, 2} }, api.ErrMesh}, {func(m *api.Mesh) { m.Tris[0][2] = -1 }, api.ErrMesh},
		{func(m *api.Mesh) { m.Tris[0][2] = 4 }, api.ErrMesh}, {func(m *api.Mesh) { m.Tris = append(m.Tris, api.Tri{1, 2, 3}) }, api.ErrMesh},
		{func(m *api.Mesh) { m.Segs = []api.Seg{{A: 1, B: 3}} }, api.ErrMesh}, {func(m *api.Mesh) { m.Points[2] = m.Points[0] }, api.ErrMesh},
		{func(m *api.Mesh) { m.Points = make([]api.Point, 401) }, api.ErrLimit}, {func(m *api.Mesh) { m.Tris = make([]api.Tri, 901) }, api.ErrLimit},
		{func(m *api.Mesh) { m.Segs = make([]api.Seg, 1301) }, api.ErrLimit},
	} {
		for _, asked := range calls() {
			q := question{square(), -1, -1, nil, api.Point{}}
			c.put(&q.m)
			if e, none := asked.ask(q); e != c.want || !none {
				t.Errorf("mesh.Check's error ahead of all: %s, case %d: error %d", asked.name, i, e)
			}
		}
	}
}

// TestWrongNumbers asks about triangles and points that there are not.
func TestWrongNumbers(t *testing.T) {
	for _, wrong := range []int{-1, 2, 4, 5, math.MaxInt, math.MinInt} {
		if l, e := locate.Walk(square(), wrong, api.Point{}); len(l) != 0 || e != api.ErrArg {
			t.Errorf("P12.2: from %d: %v, error %d", wrong, l, e)
		}
		if l, e := locate.Fan(square(), wrong); wrong != 2 && (len(l) != 0 || e != api.ErrArg) {
			t.Errorf("P12.3: of %d: %v, error %d", wrong, l, e)
		}
	}
}

// TestWrongValues asks with too few values, too many, and such as may not be in every place: the first one's error is told, ahead of the point's.
func TestWrongValues(t *testing.T) {
	far := at(70, 70)
	for n := range 9 {
		u := slices.Repeat([]api.Rat{rat.Of(1)}, n)
		bad := slices.Repeat([]api.Rat{{Num: whole.Of(1), Den: api.Nat(strings.Repeat("\x01", 8001))}}, n)
		if n == 4 {
			continue
		}
		for _, l := range [][]api.Rat{u, bad} {
			for _, p := range []api.Point{at(1, 1), far, {}} {
				if x, in, e := locate.Value(square(), l, p); x != (api.Rat{}) || in || e != api.ErrArg {
					t.Errorf("P12.4: %d values: %#v, %v, error %d", n, x, in, e)
				}
			}
		}
	}
	for _, w := range wrongRats() {
		for _, other := range wrongRats() {
			if w.asValue == api.OK || other.asValue == api.OK {
				continue
			}
			for place := range 16 {
				q := plain()
				q.u[max(place%4, place/4)] = other.x
				q.u[min(place%4, place/4)] = w.x
				for _, p := range []api.Point{at(1, 1), far, {X: other.x, Y: other.x}} {
					if x, in, e := locate.Value(q.m, q.u, p); x != (api.Rat{}) || in || e != w.asValue {
						t.Errorf("P12.4: a wrong value: %#v, %v, error %d, not %d", x, in, e, w.asValue)
					}
				}
			}
		}
	}
	for _, w := range wrongRats() { // of more than 100 bytes they may be, if not of more than 8000
		if w.asValue == api.OK {
			q := plain()
			q.u[3] = w.x
			hold(t, q.m, q.u, at(0, 1), 0)
		}
	}
}

// slip is something wrong that can be put into a question: what is told of it, if it is the first, and by which calls.
type slip struct {
	e   api.Errno
	of  string
	put func(q *question)
}

// slips are all of them, in the order in which they are told.
func slips() []slip {
	const all = "At Walk Fan Value"
	long := api.Rat{Num: whole.Of(1), Den: api.Nat(strings.Repeat("\x01", 8001))}
	return []slip{
		{api.ErrLimit, all, func(q *question) { q.m.Tris = append(q.m.Tris, make([]api.Tri, 900)...) }},
		{api.ErrArg, all, func(q *question) { q.m.Points[1].Y = api.Rat{} }},
		{api.ErrLimit, all, func(q *question) { q.m.Points[3].X = long }},
		{api.ErrMesh, all, func(q *question) { q.m.Tris[0][0] = 7 }},
		{api.ErrArg, "Walk", func(q *question) { q.t = -1 }},
		{api.ErrArg, "Fan", func(q *question) { q.v = 4 }},
		{api.ErrArg, "Value", func(q *question) { q.u = append(q.u, long) }},
		{api.ErrLimit, "Value", func(q *question) { q.u[0] = long }},
		{api.ErrArg, "Value", func(q *question) { q.u[1] = api.Rat{} }},
		{api.ErrLimit, "At Walk Value", func(q *question) { q.p.Y = long }},
		{api.ErrArg, "At Walk Value", func(q *question) { q.p.X = api.Rat{} }},
	}
}

// TestFirstOfSeveral puts each set of slips into a question: the first one that the call's promise names is told.
func TestFirstOfSeveral(t *testing.T) {
	all := slips()
	for _, c := range calls() {
		for set := range 1 << len(all) {
			q, want := plain(), api.OK
			for i := len(all) - 1; i >= 0; i-- {
				if set>>i&1 != 0 {
					all[i].put(&q)
					if slices.Contains(strings.Fields(all[i].of), c.name) {
						want = all[i].e
					}
				}
			}
			if e, none := c.ask(q); e != want || e != api.OK && !none {
				t.Fatalf("R2: %s of the set %b: error %d, not %d", c.name, set, e, want)
			}
		}
	}
	q := question{m: mill(), u: slices.Repeat([]api.Rat{rat.Of(0)}, 8), p: api.Point{}}
	if _, e := locate.Walk(q.m, 0, q.p); e != api.ErrArg { // where the way would go round
		t.Errorf("P12.2: a wrong point: error %d", e)
	}
}

// TestKeptAsGiven holds that what is handed in, and what is in its spare room, is as it was behind every call; that what is answered shares no memory with it; and that the same is answered again.
func TestKeptAsGiven(t *testing.T) {
	ask := func() question {
		q := plain()
		q.m.Segs = []api.Seg{{A: 0, B: 1}, {A: 1, B: 2, Fixed: true}, {A: 8, B: 8}}[:2]
		q.m.Tris = append(q.m.Tris, api.Tri{7, 7, 7}, api.Tri{8, 8, 8})[:2]
		q.m.Points = append(q.m.Points, at(7, 7), at(8, 8))[:4]
		q.u = append(q.u, rat.Of(7), rat.Of(8))[:4]
		return q
	}
	entire := func(q question) question {
		m := api.Mesh{Points: q.m.Points[:6], Tris: q.m.Tris[:4], Segs: q.m.Segs[:3]}
		return question{m, q.t, q.v, q.u[:6], q.p}
	}
	q, given := ask(), entire(ask())
	kept := func(name string) {
		t.Helper()
		if now := entire(q); !sameMesh(now.m, given.m) || !slices.Equal(now.u, given.u) {
			t.Fatalf("R5: %s has changed what it was given", name)
		}
	}
	for _, c := range calls() {
		for _, p := range []api.Point{at(1, 1), at(0, 1), at(9, 9), at(2, 2)} {
			q.p = p
			c.ask(q)
			kept(c.name)
		}
	}
	for name, list := range map[string]func(q question) ([]int, api.Errno){
		"Walk":     func(q question) ([]int, api.Errno) { return locate.Walk(q.m, 0, at(0, 2)) },
		"Walk out": func(q question) ([]int, api.Errno) { return locate.Walk(q.m, 1, at(3, 1)) },
		"Fan":      func(q question) ([]int, api.Errno) { return locate.Fan(q.m, 2) },
	} {
		l, e := list(q)
		first := slices.Clone(l)
		clear(l[:cap(l)])
		kept(name)
		if again, other := list(q); !slices.Equal(again, first) || other != e || e != api.OK || len(first) < 2 {
			t.Errorf("R6: %s again: %v, error %d", name, again, other)
		}
	}
}
