package plan_test

import (
	"math/big"
	"slices"
	"testing"

	"gusset/api"
	"gusset/plan"
	"gusset/rat"
)

func at(x, y int) api.Point { return api.Point{X: rat.Of(x), Y: rat.Of(y)} }

// holdBox holds the box of places against the first and the last of their sorted numbers.
func holdBox(t *testing.T, l []place) {
	t.Helper()
	xs, ys := []*big.Rat(nil), []*big.Rat(nil)
	for _, p := range l {
		xs, ys = append(xs, p.x), append(ys, p.y)
	}
	slices.SortFunc(xs, (*big.Rat).Cmp)
	slices.SortFunc(ys, (*big.Rat).Cmp)
	last := len(l) - 1
	low, high := place{xs[0], ys[0]}, place{xs[last], ys[last]}
	if p, q, e := plan.Box(points(l)); p != low.point() || q != high.point() || e != api.OK {
		t.Fatalf("P9.1: Box of %v: %#v, %#v, error %d", l, p, q, e)
	}
}

func TestBox(t *testing.T) {
	r := random()
	for i := range 200 {
		l := anyPlaces(r, 1+i%9, 1+i%100)
		holdBox(t, l)
		holdBox(t, append(l, l[0]))
	}
	for n := 1; n <= 4; n++ { // all orders of greatest and least, of numbers that are one, too
		for code := range 1 << (4 * n) {
			l := []place(nil)
			for i := range n {
				l = append(l, place{small(code>>(4*i)&3-1, 3), small(code>>(4*i+2)&3-2, 3)})
			}
			holdBox(t, l)
		}
	}
}

// TestBoxEdges asks about no point, one and two, as many as there may be, and one more, whatever that one is.
func TestBoxEdges(t *testing.T) {
	for _, l := range [][]api.Point{nil, {}} {
		if p, q, e := plan.Box(l); p != (api.Point{}) || q != (api.Point{}) || e != api.ErrArg {
			t.Errorf("P9.1: Box of none: %#v, %#v, error %d", p, q, e)
		}
	}
	if p, q, e := plan.Box([]api.Point{at(3, -4)}); p != at(3, -4) || q != at(3, -4) || e != api.OK {
		t.Errorf("P9.1: Box of one: %#v, %#v, error %d", p, q, e)
	}
	if p, q, e := plan.Box([]api.Point{at(3, -4), at(1, 7)}); p != at(1, -4) || q != at(3, 7) || e != api.OK {
		t.Errorf("P9.1: Box of two: %#v, %#v, error %d", p, q, e)
	}
	l := []api.Point(nil)
	for i := range api.MaxVerts {
		l = append(l, at(i, 1000-i))
	}
	if p, q, e := plan.Box(l); p != at(0, 1000-api.MaxVerts+1) || q != at(api.MaxVerts-1, 1000) || e != api.OK {
		t.Errorf("P9.1: Box of 400: %#v, %#v, error %d", p, q, e)
	}
	for _, more := range []api.Point{at(0, 0), {}} {
		for _, many := range [][]api.Point{append(slices.Clone(l), more), append([]api.Point{more}, l...)} {
			if p, q, e := plan.Box(many); p != (api.Point{}) || q != (api.Point{}) || e != api.ErrLimit {
				t.Errorf("P9.1: Box of 401: %#v, %#v, error %d", p, q, e)
			}
		}
	}
}

// TestAllInBox holds that all points stand in their box, and that each of its sides has one.
func TestAllInBox(t *testing.T) {
	r := random()
	for i := range 60 {
		l := points(anyPlaces(r, 1+i%12, 1+i%30))
		low, high, _ := plan.Box(l)
		touched := [4]bool{}
		for _, p := range l {
			for k, pair := range [4][2]api.Rat{{low.X, p.X}, {p.X, high.X}, {low.Y, p.Y}, {p.Y, high.Y}} {
				order, e := rat.Cmp(pair[0], pair[1])
				if order > 0 || e != api.OK {
					t.Errorf("P9.5: %#v stands outside of the box from %#v to %#v", p, low, high)
				}
				touched[k] = touched[k] || order == 0
			}
		}
		if touched != [4]bool{true, true, true, true} {
			t.Errorf("P9.1: the box from %#v to %#v is too large: %v", low, high, touched)
		}
	}
}

// TestAt holds At against what the words say, beside the edges.
func TestAt(t *testing.T) {
	for i, c := range []struct {
		segs []api.Seg
		v    int
		want []int
	}{
		{nil, 0, nil}, {[]api.Seg{}, 0, nil}, {[]api.Seg{{A: 3, B: 1}, {A: 2, B: 0}, {A: 1, B: 2}}, 1, []int{0, 2}},
		{[]api.Seg{{A: 3, B: 1}, {A: 2, B: 0}, {A: 1, B: 2}}, 5, nil}, {[]api.Seg{{A: 4, B: 4}, {A: 0, B: 4, Fixed: true}}, 4, []int{0, 1}},
		{[]api.Seg{{A: -1, B: 0}, {A: 0, B: 1}, {A: 7, B: -1}}, -1, []int{0, 2}}, {[]api.Seg{{A: 1, B: 2}}, -1, nil},
		{[]api.Seg{{}, {}}, 0, []int{0, 1}},
	} {
		if l := plan.At(c.segs, c.v); !slices.Equal(l, c.want) {
			t.Errorf("P9.4: case %d: %v", i, l)
		}
	}
	r := random()
	segs := anySegs(r, 3000, 9) // there is no limit here
	given := slices.Clone(segs)
	for v := range 10 {
		want := []int(nil)
		for i := len(segs) - 1; i >= 0; i-- {
			if (segs[i].A-v)*(segs[i].B-v) == 0 {
				want = append(want, i)
			}
		}
		slices.Reverse(want)
		l := plan.At(segs, v)
		if !slices.Equal(l, want) {
			t.Errorf("P9.4: At %d: %v, not %v", v, l, want)
		}
		clear(l[:cap(l)])
		if again := plan.At(segs, v); !slices.Equal(again, want) {
			t.Errorf("R5, R6: At %d again: %v", v, again)
		}
	}
	if !slices.Equal(segs, given) {
		t.Errorf("R5: At changed what it was given")
	}
}
