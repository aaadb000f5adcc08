package estimate_test

import (
	"slices"
	"strings"
	"testing"

	"gusset/api"
	"gusset/estimate"
	"gusset/rat"
	"gusset/whole"
)

// question is what a call is asked.
type question struct {
	m api.Mesh
	u []api.Rat
	f api.Poly
}

func plain() question { return question{square(true), ints(1, 2, 3, 4), polyOf(1, 2, 3)} }

// call is one of the chapter's: it tells its error, and whether all else that it answers is a zero value.
type call struct {
	name string
	ask  func(q question) (api.Errno, bool)
}

func calls() []call {
	return []call{
		{"Each", func(q question) (api.Errno, bool) { l, e := estimate.Each(q.m, q.u, q.f); return e, len(l) == 0 }},
		{"Total", func(q question) (api.Errno, bool) {
			a, e := estimate.Total(q.m, q.u, q.f)
			return e, a == api.Rat{}
		}},
		{"Energy2", func(q question) (api.Errno, bool) {
			a, e := estimate.Energy2(q.m, q.u)
			return e, a == api.Rat{}
		}},
	}
}

// refused holds that all calls tell an error, and nothing else.
func refused(t *testing.T, name string, q question, want api.Errno) {
	t.Helper()
	for _, c := range calls() {
		if e, none := c.ask(q); e != want || !none {
			t.Errorf("P21.1, P21.2: %s of %s: error %d, not %d", c.name, name, e, want)
		}
	}
}

// wrongs are numbers that are not in their one form, longs(n) such as have more than n bytes: of these some are wrong, too.
func wrongs() []api.Rat {
	one := whole.Of(1)
	return []api.Rat{
		{}, {Num: one}, {Num: api.Int{Neg: true}, Den: "\x01"}, {Num: whole.Of(2), Den: "\x04"}, {Den: "\x02"},
		{Num: one, Den: "\x00\x01"}, {Num: api.Int{Mag: "\x00\x01"}, Den: "\x01"}, {Num: api.Int{Mag: nat(100)}, Den: nat(100)},
	}
}

func longs(n int) []api.Rat {
	one := whole.Of(1)
	return []api.Rat{
		{Num: api.Int{Mag: nat(n + 1)}, Den: "\x01"}, {Num: one, Den: nat(n + 1)}, {Num: api.Int{Neg: true, Mag: nat(8001)}, Den: "\x01"},
		{Num: api.Int{Mag: nat(n + 1)}, Den: nat(n + 1)}, {Num: api.Int{Mag: "\x00" + nat(n)}, Den: "\x01"}, {Num: api.Int{Mag: nat(n + 1)}},
	}
}

// TestWrongMeshes asks about meshes that may not be: that is ahead of wrong polynomials and values.
func TestWrongMeshes(t *testing.T) {
	for _, c := range []struct {
		name string
		put  func(m *api.Mesh)
		want api.Errno
	}{
		{"one that turns to the right", func(m *api.Mesh) { m.Tris[1] = api.Tri{0, 3, 2} }, api.ErrMesh},
		{"a corner below 0", func(m *api.Mesh) { m.Tris[0][2] = -1 }, api.ErrMesh},
		{"a corner that is no point", func(m *api.Mesh) { m.Tris[0][2] = 4 }, api.ErrMesh},
		{"an edge twice", func(m *api.Mesh) { m.Tris = append(m.Tris, api.Tri{1, 2, 3}) }, api.ErrMesh},
		{"a segment that is no edge", func(m *api.Mesh) { m.Segs[0] = api.Seg{A: 1, B: 3} }, api.ErrMesh},
		{"points in a line", func(m *api.Mesh) { m.Points[2] = m.Points[0] }, api.ErrMesh},
		{"segments of no points", func(m *api.Mesh) { m.Segs[0] = api.Seg{A: -1, B: 99, Fixed: true} }, api.ErrMesh},
		{"a segment twice", func(m *api.Mesh) { m.Segs[0] = m.Segs[1] }, api.ErrMesh},
		{"401 points", func(m *api.Mesh) { m.Points = make([]api.Point, 401) }, api.ErrLimit},
		{"901 triangles", func(m *api.Mesh) { m.Tris = make([]api.Tri, 901) }, api.ErrLimit},
		{"1301 segments", func(m *api.Mesh) { m.Segs = make([]api.Seg, 1301) }, api.ErrLimit},
		{"a wrong point", func(m *api.Mesh) { m.Points[3].X = api.Rat{} }, api.ErrArg},
		{"a point of 101 bytes", func(m *api.Mesh) { m.Points[1].Y = longs(100)[1] }, api.ErrLimit},
	} {
		for _, q := range []question{plain(), {m: square(true)}} {
			c.put(&q.m)
			refused(t, c.name, q, c.want)
		}
	}
}

// TestWrongPolynomials puts one or two wrong numbers in every place of f: the first one's error is told, by those calls that are asked with one.
func TestWrongPolynomials(t *testing.T) {
	expected := func(a api.Rat) api.Errno {
		if longest(a) > 100 {
			return api.ErrLimit
		}
		return api.ErrArg
	}
	all := append(wrongs(), longs(100)...)
	for _, w := range all {
		for _, other := range all {
			for first := range 6 {
				for second := first; second < 6; second++ {
					q := question{m: square(true)} // and no values at all
					q.f[second], q.f[first] = other, w
					for k := range q.f {
						if q.f[k] == (api.Rat{}) && k != first && k != second {
							q.f[k] = rat.Of(k)
						}
					}
					for _, c := range calls()[:2] {
						if e, none := c.ask(q); e != expected(w) || !none {
							t.Fatalf("P21.1: %s, number %d: error %d, not %d", c.name, first, e, expected(w))
						}
					}
				}
			}
		}
	}
	if _, e := estimate.Each(square(false), ints(1, 2, 3, 4), api.Poly(slices.Repeat([]api.Rat{longs(99)[1]}, 6))); e != api.OK {
		t.Errorf("P21.1: 100 bytes: error %d", e)
	}
}

// TestWrongValues asks with too few values, too many, and such as may not be asked in every place: the first one's error is told, be it too long or wrong.
func TestWrongValues(t *testing.T) {
	expected := func(a api.Rat) api.Errno {
		if longest(a) > 3000 {
			return api.ErrLimit
		}
		return api.ErrArg
	}
	all := append(wrongs(), longs(3000)...)
	for n := range 9 {
		for _, v := range append(all, rat.Of(1)) {
			if n != 4 {
				refused(t, "a wrong count", question{square(true), slices.Repeat([]api.Rat{v}, n), polyOf(1)}, api.ErrArg)
			}
		}
	}
	for _, v := range all {
		for _, other := range all {
			for place := range 16 {
				q := plain()
				q.u[max(place%4, place/4)] = other
				q.u[min(place%4, place/4)] = v
				refused(t, "a wrong value", q, expected(v))
			}
		}
	}
	for _, v := range longs(2999)[:2] { // of 3000 bytes they may be
		q := plain()
		q.u[2] = v
		hold(t, q.m, q.u, q.f)
	}
	points := question{m: api.Mesh{Points: []api.Point{at(0, 0), at(1, 1)}}, f: polyOf(1)} // where no value is needed
	refused(t, "no values", points, api.ErrArg)
	points.u = []api.Rat{rat.Of(1), {}}
	refused(t, "a wrong value of a point that is no corner", points, api.ErrArg)
}

// slip is something wrong that can be put into a question: what is told of it, if it is the first, and by which calls.
type slip struct {
	e   api.Errno
	of  string
	put func(q *question)
}

// slips are all of them, in the order in which they are told.
func slips() []slip {
	const all = "Each Total Energy2"
	return []slip{
		{api.ErrLimit, all, func(q *question) { q.m.Tris = append(q.m.Tris, make([]api.Tri, 900)...) }},
		{api.ErrArg, all, func(q *question) { q.m.Points[1].Y = api.Rat{} }},
		{api.ErrLimit, all, func(q *question) { q.m.Points[3].X = longs(100)[0] }},
		{api.ErrMesh, all, func(q *question) { q.m.Tris[0][0] = 7 }},
		{api.ErrArg, "Each Total", func(q *question) { q.f[0] = api.Rat{} }},
		{api.ErrLimit, "Each Total", func(q *question) { q.f[5] = longs(100)[1] }},
		{api.ErrArg, all, func(q *question) { q.u = append(q.u, longs(3000)[0]) }},
		{api.ErrLimit, all, func(q *question) { q.u[0] = longs(3000)[3] }},
		{api.ErrArg, all, func(q *question) { q.u[1] = api.Rat{} }},
		{api.ErrLimit, all, func(q *question) { q.u[2] = longs(3000)[1] }},
	}
}

// TestFirstOfSeveral puts each set of slips into a question: the first one that the chapter names is told.
func TestFirstOfSeveral(t *testing.T) {
	all := slips()
	for _, c := range calls() {
		for set := range 1 << len(all) {
			q, want := plain(), api.OK
			for i := len(all) - 1; i >= 0; i-- {
				if set>>i&1 != 0 {
					all[i].put(&q)
					if slices.Contains(strings.Fields(all[i].of), c.name) {
						want = all[i].e
					}
				}
			}
			if e, none := c.ask(q); e != want || e != api.OK && !none {
				t.Fatalf("R2: %s of the set %b: error %d, not %d", c.name, set, e, want)
			}
		}
	}
}
