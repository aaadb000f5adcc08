package system_test

import (
	"math"
	"slices"
	"strings"
	"testing"

	"gusset/api"
	"gusset/rat"
	"gusset/system"
	"gusset/whole"
)

func nat(n int) api.Nat { return api.Nat(strings.Repeat("\x01", n)) }

// wrongs are numbers that are not in their one form, long(n) is one that is, but for more than n bytes.
func wrongs() []api.Rat {
	one := whole.Of(1)
	return []api.Rat{
		{}, {Num: one}, {Num: api.Int{Neg: true}, Den: "\x01"}, {Num: whole.Of(2), Den: "\x04"}, {Den: "\x02"},
		{Num: one, Den: "\x00\x01"}, {Num: api.Int{Mag: "\x00\x01"}, Den: "\x01"},
	}
}

func long(n int) api.Rat { return api.Rat{Num: whole.Of(1), Den: nat(n + 1)} }

// refused asks all calls that take a system, whose error goes ahead of wrong values.
func refused(t *testing.T, name string, s api.System, want api.Errno) {
	t.Helper()
	if e := system.Check(s); e != want {
		t.Errorf("P18.1: %s: error %d, not %d", name, e, want)
	}
	for _, x := range [][]api.Rat{nil, slices.Repeat([]api.Rat{rat.Of(1)}, len(s.Rows)), {{}}, slices.Repeat([]api.Rat{long(8000)}, len(s.Rows))} {
		for _, call := range []func(api.System, []api.Rat) ([]api.Rat, api.Errno){system.Times, system.Residual} {
			if l, e := call(s, x); len(l) != 0 || e != want {
				t.Errorf("P18.3: %s: %v, error %d, not %d", name, l, e, want)
			}
		}
	}
}

// plain is a system of three rows that may be.
func plain() api.System {
	two, half := rat.Of(2), ratOf(small(-1, 2))
	return api.System{
		Rows:  [][]api.Entry{{{Col: 0, Val: two}, {Col: 2, Val: half}}, {{Col: 1, Val: two}}, {{Col: 0, Val: half}, {Col: 2, Val: two}}},
		Right: []api.Rat{rat.Of(0), rat.Of(5), rat.Of(-5)},
	}
}

// TestWrongSystems changes a system that may be, in one way each.
func TestWrongSystems(t *testing.T) {
	must(t, system.Check(plain()))
	must(t, system.Check(api.System{}))
	must(t, system.Check(api.System{Rows: make([][]api.Entry, 2), Right: []api.Rat{rat.Of(1), rat.Of(0)}}))
	entry := func(col, n int) api.Entry { return api.Entry{Col: col, Val: rat.Of(n)} }
	for name, change := range map[string]func(s *api.System){
		"a row less":           func(s *api.System) { s.Rows = s.Rows[:2] },
		"a row more":           func(s *api.System) { s.Rows = append(s.Rows, nil) },
		"nothing on the right": func(s *api.System) { s.Right = nil },
		"no rows":              func(s *api.System) { s.Rows = nil },
		"a number more":        func(s *api.System) { s.Right = append(s.Right, rat.Of(1)) },
		"columns that fall":    func(s *api.System) { s.Rows[0][0], s.Rows[0][1] = s.Rows[0][1], s.Rows[0][0] },
		"a column twice":       func(s *api.System) { s.Rows[1] = append(s.Rows[1], entry(1, 2)) },
		"a column of no row":   func(s *api.System) { s.Rows[2] = append(s.Rows[2], entry(3, 1)) },
		"a column far away":    func(s *api.System) { s.Rows[2][1].Col = math.MaxInt },
		"a column below 0":     func(s *api.System) { s.Rows[0][0].Col = -1 },
		"a column far below 0": func(s *api.System) { s.Rows[1][0].Col = math.MinInt },
		"an entry without one": func(s *api.System) { s.Rows[1] = []api.Entry{entry(0, 1), entry(1, 2)} },
		"and on the other side": func(s *api.System) {
			s.Rows[1] = append(s.Rows[1], entry(2, 1))
		},
		"entries that differ":    func(s *api.System) { s.Rows[0][1].Val = rat.Of(1) },
		"and in their sign":      func(s *api.System) { s.Rows[2][0].Val.Num.Neg = false },
		"a 0":                    func(s *api.System) { s.Rows[1][0].Val = rat.Of(0) },
		"two of them":            func(s *api.System) { s.Rows[0][1].Val, s.Rows[2][0].Val = rat.Of(0), rat.Of(0) },
		"one too long":           func(s *api.System) { s.Rows[1][0].Val = long(8000) },
		"two too long":           func(s *api.System) { s.Rows[0][1].Val, s.Rows[2][0].Val = long(8000), long(8000) },
		"too long on the right":  func(s *api.System) { s.Right[1] = long(8000) },
		"very long on the right": func(s *api.System) { s.Right[2] = long(90000) },
	} {
		s := plain()
		change(&s)
		refused(t, name, s, api.ErrArg)
	}
	for _, w := range wrongs() {
		for i := range 3 {
			s := plain()
			s.Right[i] = w
			refused(t, "a wrong number on the right", s, api.ErrArg)
			s = plain()
			s.Rows[i][0].Val = w
			refused(t, "a wrong entry", s, api.ErrArg)
		}
		s := plain()
		s.Rows[0][1].Val, s.Rows[2][0].Val = w, w
		refused(t, "two wrong entries", s, api.ErrArg)
	}
}

// TestGreatSystems holds how many rows there may be, and that more are told ahead of all else.
func TestGreatSystems(t *testing.T) {
	system400 := func(rows, right int) api.System {
		return api.System{Rows: make([][]api.Entry, rows), Right: slices.Repeat([]api.Rat{rat.Of(1)}, right)}
	}
	must(t, system.Check(system400(400, 400)))
	refused(t, "401 rows", system400(401, 401), api.ErrLimit)
	refused(t, "401 rows, and few numbers", system400(401, 1), api.ErrLimit)
	refused(t, "401 numbers", system400(0, 401), api.ErrLimit)
	refused(t, "400 rows, 399 numbers", system400(400, 399), api.ErrArg)
	s := system400(2, 401)
	s.Rows[0], s.Right[0] = []api.Entry{{Col: 9}}, api.Rat{}
	refused(t, "401 numbers, and all is wrong", s, api.ErrLimit)
	s = system400(3, 3)
	s.Rows[1] = make([]api.Entry, 100000)
	refused(t, "a row longer than there are columns", s, api.ErrArg)
	s = plain()
	s.Rows[1][0].Val = long(7999)
	s.Right[0] = long(7999)
	must(t, system.Check(s))
}

// TestWrongValues asks with too few values, too many, and such as may not be in every place: the first one's error is told.
func TestWrongValues(t *testing.T) {
	calls := []func(api.System, []api.Rat) ([]api.Rat, api.Errno){system.Times, system.Residual}
	all := append(wrongs(), long(8000), api.Rat{Num: api.Int{Mag: nat(8001)}})
	for _, call := range calls {
		for n := range 6 {
			for _, v := range append(all, rat.Of(1)) {
				if l, e := call(plain(), slices.Repeat([]api.Rat{v}, n)); n != 3 && (len(l) != 0 || e != api.ErrArg) {
					t.Errorf("P18.3: %d values: %v, error %d", n, l, e)
				}
			}
		}
		for _, v := range all {
			for _, other := range all {
				for place := range 9 {
					x := []api.Rat{rat.Of(1), rat.Of(2), rat.Of(3)}
					x[max(place%3, place/3)] = other
					x[min(place%3, place/3)] = v
					if l, e := call(plain(), x); len(l) != 0 || e != rat.Check(v) {
						t.Errorf("P18.3: a wrong value at %d: %v, error %d, not %d", place, l, e, rat.Check(v))
					}
				}
			}
		}
		if _, e := call(plain(), []api.Rat{rat.Of(1), long(7999), rat.Of(1)}); e != api.OK {
			t.Errorf("P18.3: a value of 8000 bytes: error %d", e)
		}
	}
}

// TestWrongMeshes asks Held and Build about meshes that may not be: that is ahead of wrong polynomials.
func TestWrongMeshes(t *testing.T) {
	for i, c := range []struct {
		put  func(m *api.Mesh)
		want api.Errno
	}{
		{func(m *api.Mesh) { m.Tris[1] = api.Tri{0, 3, 2} }, api.ErrMesh}, {func(m *api.Mesh) { m.Tris[0][2] = -1 }, api.ErrMesh},
		{func(m *api.Mesh) { m.Tris[0][2] = 4 }, api.ErrMesh}, {func(m *api.Mesh) { m.Tris = append(m.Tris, api.Tri{1, 2, 3}) }, api.ErrMesh},
		{func(m *api.Mesh) { m.Segs[0] = api.Seg{A: 1, B: 3} }, api.ErrMesh}, {func(m *api.Mesh) { m.Points[2] = m.Points[0] }, api.ErrMesh},
		{func(m *api.Mesh) { m.Segs[0] = api.Seg{A: -1, B: 99, Fixed: true} }, api.ErrMesh}, {func(m *api.Mesh) { m.Segs[0] = m.Segs[1] }, api.ErrMesh},
		{func(m *api.Mesh) { m.Points = make([]api.Point, 401) }, api.ErrLimit}, {func(m *api.Mesh) { m.Tris = make([]api.Tri, 901) }, api.ErrLimit},
		{func(m *api.Mesh) { m.Segs = make([]api.Seg, 1301) }, api.ErrLimit}, {func(m *api.Mesh) { m.Points[3].X = api.Rat{} }, api.ErrArg},
		{func(m *api.Mesh) { m.Points[1].Y = long(100) }, api.ErrLimit},
	} {
		m := square(true)
		c.put(&m)
		if l, e := system.Held(m); len(l) != 0 || e != c.want {
			t.Errorf("P18.1: case %d: %v, error %d", i, l, e)
		}
		for _, f := range []api.Poly{polyOf(1), {}} {
			if s, e := system.Build(m, f, f); !isNone(s) || e != c.want {
				t.Errorf("P18.2: case %d: %v, error %d", i, s, e)
			}
		}
	}
}

// TestWrongPolynomials puts one or two wrong numbers in every place of f and g: the first one's error is told, be anything held or not.
func TestWrongPolynomials(t *testing.T) {
	all := append(wrongs(), long(100), long(8000))
	expected := func(a api.Rat) api.Errno {
		if len(a.Den) > 100 {
			return api.ErrLimit
		}
		return api.ErrArg
	}
	for _, m := range []api.Mesh{{}, square(true), square(false)} {
		for _, w := range all {
			for _, other := range all {
				for first := range 12 {
					for second := first; second < 12; second++ {
						l := [2]api.Poly{polyOf(1, 2, 3), polyOf(4)}
						l[second/6][second%6] = other
						l[first/6][first%6] = w
						if s, e := system.Build(m, l[0], l[1]); !isNone(s) || e != expected(w) {
							t.Fatalf("P18.2: number %d: %v, error %d, not %d", first, s, e, expected(w))
						}
					}
				}
			}
		}
	}
	if _, e := system.Build(square(false), api.Poly(slices.Repeat([]api.Rat{long(99)}, 6)), polyOf(0, 0, 0, 0, 0, -1)); e != api.OK {
		t.Errorf("P18.2: 100 bytes: error %d", e)
	}
}
