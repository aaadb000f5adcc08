package refine

import (
	"math/big"
	"math/rand/v2"
	"slices"
	"testing"

	"gusset/api"
	"gusset/rat"
)

func at(x, y int) api.Point { return api.Point{X: rat.Of(x), Y: rat.Of(y)} }

// room is a work on a square, its sides segments.
func room() (work, api.Mesh) {
	m := api.Mesh{
		Points: []api.Point{at(0, 0), at(4, 0), at(4, 4), at(0, 4)},
		Tris:   []api.Tri{{0, 1, 2}, {0, 2, 3}},
		Segs:   []api.Seg{{A: 0, B: 1, Fixed: true}, {A: 1, B: 2}, {A: 2, B: 3}, {A: 3, B: 0}},
	}
	return work{net: netOf(m), found: map[api.Tri]finding{}}, m
}

// TestTry puts points into a square: they come in, or a side is parted that they would crowd, that they lie on, or beyond which they lie; if there is no room for that, all is as it was.
func TestTry(t *testing.T) {
	for i, c := range []struct {
		p     api.Point
		room2 int
		comes api.Point // what comes in; the first corner, if nothing does
	}{
		{at(2, 2), 8, at(2, 2)}, {at(2, 2), 9, at(0, 0)},
		{at(2, 1), 4, at(2, 0)}, {at(2, 1), 5, at(0, 0)}, {at(3, 2), 4, at(4, 2)}, {at(3, 2), 5, at(0, 0)}, {at(1, 2), 4, at(0, 2)},
		{at(2, 0), 4, at(2, 0)}, {at(2, 0), 5, at(0, 0)}, {at(1, 0), 4, at(2, 0)},
		{at(2, -1), 4, at(2, 0)}, {at(2, -1), 5, at(0, 0)}, {at(2, 5), 4, at(2, 4)}, {at(2, 5), 5, at(0, 0)},
	} {
		w, m := room()
		done := w.try(0, c.p, amountOf(rat.Of(c.room2)))
		if comes := c.comes != at(0, 0); done != comes {
			t.Errorf("P16.3: case %d: %v", i, done)
		}
		if !done && !(slices.Equal(w.Points, m.Points) && slices.Equal(w.Tris, m.Tris) && slices.Equal(w.segs, m.Segs) && w.Legal()) {
			t.Errorf("case %d: something was done: %v, %v, %v", i, w.Points, w.Tris, w.segs)
		}
		if done && (len(w.Points) != 5 || w.Points[4] != c.comes || !w.Legal()) {
			t.Errorf("case %d: %v, not %v", i, w.Points, c.comes)
		}
		if parted := done && c.comes != c.p || c.p == at(2, 0) && done; (len(w.segs) == 5) != parted {
			t.Errorf("case %d: the segments %v", i, w.segs)
		}
	}
}

// TestRoom holds how much room is asked for against the words: the shortest edge of what is slender, half of the least Most2 for which a triangle is great.
func TestRoom(t *testing.T) {
	r := rand.New(rand.NewPCG(169, 170))
	seen := map[[2]bool]int{}
	for range 400 {
		l := []api.Point{at(0, 0), at(1+r.IntN(12), 0), at(r.IntN(20)-6, 1+r.IntN(9))}
		s := shapeOf(l, api.Tri{0, 1, 2})
		sizes, want := []api.Size(nil), []*big.Rat(nil)
		for range r.IntN(3) {
			size := api.Size{Centre: at(r.IntN(9), r.IntN(9)), Within2: rat.Of(r.IntN(99)), Most2: rat.Of(1 + r.IntN(30))}
			sizes = append(sizes, size)
			for range s.great(limitsOf([]api.Size{size})) {
				want = append(want, new(big.Rat).Mul(bigOf(size.Most2), big.NewRat(1, 2)))
			}
		}
		kind := [2]bool{s.isSlender(), len(want) > 0}
		seen[kind]++
		if !s.isBad(limitsOf(sizes)) {
			if kind != ([2]bool{}) {
				t.Fatalf("%v: not bad, but %v", l, kind)
			}
			continue
		}
		if s.isSlender() {
			for k := range l {
				a, b := l[k], l[(k+1)%3]
				x, y := new(big.Rat).Sub(bigOf(a.X), bigOf(b.X)), new(big.Rat).Sub(bigOf(a.Y), bigOf(b.Y))
				want = append(want, x.Add(x.Mul(x, x), y.Mul(y, y)))
			}
		}
		least := ratOf(slices.MinFunc(want, func(x, y *big.Rat) int { return x.Cmp(y) }))
		if got := s.room2(limitsOf(sizes)); got.isBelow(amountOf(least)) || amountOf(least).isBelow(got) {
			t.Errorf("P16.3: the room for %v, %v is not %v", l, sizes, least)
		}
	}
	if len(seen) != 4 || min(seen[[2]bool{true, false}], seen[[2]bool{false, true}], seen[[2]bool{true, true}]) < 20 {
		t.Errorf("slender, great: %v", seen)
	}
}
