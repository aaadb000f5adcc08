package hull_test

import (
	"slices"
	"strings"
	"testing"

	"gusset/api"
	"gusset/hull"
	"gusset/rat"
	"gusset/whole"
)

// ask tells the error of both calls, if it is one, and whether nothing else is told.
func ask(t *testing.T, l []api.Point) (api.Errno, bool) {
	t.Helper()
	round, e := hull.Round(l)
	m, f := hull.Build(l)
	if e != f {
		t.Errorf("Round tells error %d, Build %d", e, f)
	}
	return e, len(round)+len(m.Points)+len(m.Tris)+len(m.Segs) == 0
}

// wrongPoint is one that may not be asked.
type wrongPoint struct {
	p api.Point
	e api.Errno
}

// wrongPoints are such: too long, not in their one form, and both.
func wrongPoints() []wrongPoint {
	good := rat.Of(1)
	nat := func(n int) api.Nat { return api.Nat(strings.Repeat("\x01", n)) }
	longWhole, longPart := api.Rat{Num: api.Int{Mag: nat(101)}, Den: "\x01"}, api.Rat{Num: whole.Of(1), Den: nat(101)}
	uncut, negative := api.Rat{Num: whole.Of(2), Den: "\x04"}, api.Rat{Num: api.Int{Neg: true}, Den: "\x01"}
	out := []wrongPoint(nil)
	for _, long := range []api.Rat{longWhole, longPart, {Num: whole.Of(1), Den: nat(8001)}} {
		out = append(out, wrongPoint{api.Point{X: long, Y: good}, api.ErrLimit}, wrongPoint{api.Point{X: good, Y: long}, api.ErrLimit})
		out = append(out, wrongPoint{api.Point{X: uncut, Y: long}, api.ErrLimit}, wrongPoint{api.Point{X: long, Y: uncut}, api.ErrLimit})
	}
	for _, wrong := range []api.Rat{uncut, negative, {}, {Num: whole.Of(1), Den: "\x00\x01"}, {Num: api.Int{Mag: "\x00\x01"}, Den: "\x01"}} {
		out = append(out, wrongPoint{api.Point{X: wrong, Y: good}, api.ErrArg}, wrongPoint{api.Point{X: good, Y: wrong}, api.ErrArg})
	}
	return out
}

// TestWrongPoints puts one or two points that may not be asked in every place, beside points that are one: the first one's error is told.
func TestWrongPoints(t *testing.T) {
	wrong := wrongPoints()
	for _, w := range wrong {
		for _, other := range wrong {
			for first := range 4 {
				for second := first; second < 4; second++ {
					l := []api.Point{at(0, 0), at(0, 0), at(1, 0), at(0, 1)}
					l[second] = other.p
					l[first] = w.p
					if e, none := ask(t, l); e != w.e || !none {
						t.Fatalf("point %d: error %d, not %d; nothing else: %v", first, e, w.e, none)
					}
				}
			}
		}
		if e, none := ask(t, []api.Point{w.p}); e != w.e || !none {
			t.Errorf("one wrong point alone: error %d, not %d", e, w.e)
		}
	}
}

// TestFirstOfSeveral puts each set of faults into 400 points: the first one that is named is told.
func TestFirstOfSeveral(t *testing.T) {
	for set := range 1 << 5 {
		l, want := []api.Point(nil), api.OK
		for i := range 400 {
			l = append(l, at(i, i%2))
		}
		if set&16 != 0 {
			want = api.ErrFlat
			for i := range l {
				l[i] = at(i, 0)
			}
		}
		if set&8 != 0 {
			want = api.ErrTwice
			l[7] = l[399]
		}
		if set&4 != 0 {
			want = api.ErrArg
			l[20].Y = api.Rat{}
		}
		if set&2 != 0 {
			want = api.ErrLimit
			l[10].X.Num.Mag = api.Nat(strings.Repeat("\x02", 101))
		}
		if set&1 != 0 {
			want = api.ErrLimit
			l = append(l, at(9, 9))
		}
		if e, none := ask(t, l); e != want || none != (want != api.OK) {
			t.Errorf("R2: the set %b: error %d, not %d", set, e, want)
		}
	}
}

// TestFew asks about fewer points than three: ErrTwice goes ahead of ErrFlat.
func TestFew(t *testing.T) {
	for i, c := range []struct {
		l    []api.Point
		want api.Errno
	}{
		{nil, api.ErrFlat}, {[]api.Point{}, api.ErrFlat}, {[]api.Point{at(1, 2)}, api.ErrFlat}, {[]api.Point{at(1, 2), at(2, 1)}, api.ErrFlat},
		{[]api.Point{at(1, 2), at(1, 2)}, api.ErrTwice}, {[]api.Point{at(1, 2), at(3, 4), at(1, 2)}, api.ErrTwice}, {[]api.Point{at(0, 0), at(1, 0), at(0, 1), at(1, 0)}, api.ErrTwice},
		{make([]api.Point, 401), api.ErrLimit}, {make([]api.Point, 400), api.ErrArg}, {make([]api.Point, 5000), api.ErrLimit},
	} {
		if e, none := ask(t, c.l); e != c.want || !none {
			t.Errorf("case %d: error %d, not %d", i, e, c.want)
		}
	}
}

// TestMemory holds that what is handed in, and what is in its spare room, is as it was; that the answers share no memory with it, nor with later ones; and that the same is answered again.
func TestMemory(t *testing.T) {
	roomy := append(scatter(random(), 30, 6, 6), at(71, 71), at(72, 72))
	l, before := roomy[:30], slices.Clone(roomy)
	round, _ := hull.Round(l)
	m, e := hull.Build(l)
	firstRound, points, tris := slices.Clone(round), slices.Clone(m.Points), slices.Clone(m.Tris)
	if !slices.Equal(roomy, before) || e != api.OK {
		t.Fatalf("R5: what was handed in is changed; error %d", e)
	}
	clear(round[:cap(round)])
	clear(m.Points[:cap(m.Points)])
	if !slices.Equal(m.Tris, tris) {
		t.Errorf("R5: triangles hang on points")
	}
	clear(m.Tris[:cap(m.Tris)])
	if !slices.Equal(roomy, before) {
		t.Errorf("R5: what was handed in hangs on the answer")
	}
	round, _ = hull.Round(l)
	m, _ = hull.Build(l)
	clear(roomy)
	if !slices.Equal(round, firstRound) || !slices.Equal(m.Points, points) || !slices.Equal(m.Tris, tris) {
		t.Errorf("R5, R6: asked again: %v, %v", round, m)
	}
}
