package surface_test

import (
	"math/big"
	"math/rand/v2"
	"slices"
	"testing"

	"gusset/api"
	"gusset/poly"
	"gusset/rat"
	"gusset/surface"
)

// ratOf is a number of the library as a Rat, bigOf the other way: what the answers are held against.
func ratOf(x *big.Rat) api.Rat {
	num := api.Int{Neg: x.Sign() < 0, Mag: api.Nat(x.Num().Bytes())}
	return api.Rat{Num: num, Den: api.Nat(x.Denom().Bytes())}
}

func bigOf(a api.Rat) *big.Rat {
	x := new(big.Rat).SetFrac(new(big.Int).SetBytes([]byte(a.Num.Mag)), new(big.Int).SetBytes([]byte(a.Den)))
	if a.Num.Neg {
		x.Neg(x)
	}
	return x
}

func times(x *big.Rat, y *big.Rat) *big.Rat { return new(big.Rat).Mul(x, y) }
func plus(x *big.Rat, y *big.Rat) *big.Rat  { return new(big.Rat).Add(x, y) }
func minus(x *big.Rat, y *big.Rat) *big.Rat { return new(big.Rat).Sub(x, y) }
func over(x *big.Rat, y *big.Rat) *big.Rat  { return new(big.Rat).Quo(x, y) }

// place is a point in the library's numbers.
type place struct{ x, y *big.Rat }

func (p place) less(q place) place     { return place{minus(p.x, q.x), minus(p.y, q.y)} }
func (p place) cross(q place) *big.Rat { return minus(times(p.x, q.y), times(p.y, q.x)) }

// way is the one from a point to another one.
func way(m api.Mesh, from, to int) place {
	p, q := m.Points[from], m.Points[to]
	return place{bigOf(q.X), bigOf(q.Y)}.less(place{bigOf(p.X), bigOf(p.Y)})
}

// area is twice that of a triangle; slope is how values grow there by X and by Y.
func area(m api.Mesh, t api.Tri) *big.Rat { return way(m, t[0], t[1]).cross(way(m, t[0], t[2])) }

func slope(m api.Mesh, u []api.Rat, t api.Tri) place {
	b, c := way(m, t[0], t[1]), way(m, t[0], t[2])
	growB, growC := minus(bigOf(u[t[1]]), bigOf(u[t[0]])), minus(bigOf(u[t[2]]), bigOf(u[t[0]]))
	return place{over(minus(times(growB, c.y), times(growC, b.y)), area(m, t)), over(minus(times(b.x, growC), times(c.x, growB)), area(m, t))}
}

// share is that of the edge from a to b of a triangle that has the slope p.
func share(m api.Mesh, slopes []place, p place, a, b int) *big.Rat {
	for _, s := range m.Segs {
		if s.Fixed && (s.A == a && s.B == b || s.A == b && s.B == a) {
			return new(big.Rat)
		}
	}
	along := way(m, a, b)
	for i, o := range m.Tris {
		if o[0] == b && o[1] == a || o[1] == b && o[2] == a || o[2] == b && o[0] == a {
			jump := along.cross(p.less(slopes[i]))
			return times(big.NewRat(1, 2), times(jump, jump))
		}
	}
	jump := along.cross(p)
	return times(jump, jump)
}

// wantAll is what Each, Total and Energy2 are to tell, by chapter 21's words.
func wantAll(m api.Mesh, u []api.Rat, f api.Poly) (each []api.Rat, total, energy2 api.Rat) {
	sum, energy, slopes := new(big.Rat), new(big.Rat), []place(nil)
	for _, t := range m.Tris {
		slopes = append(slopes, slope(m, u, t))
	}
	for i, t := range m.Tris {
		square, _ := poly.Square(f, m.Points[t[0]], m.Points[t[1]], m.Points[t[2]])
		half, p := times(big.NewRat(1, 2), area(m, t)), slopes[i]
		wrong := times(half, bigOf(square))
		for k := range t {
			wrong = plus(wrong, share(m, slopes, p, t[k], t[(k+1)%3]))
		}
		each, sum = append(each, ratOf(wrong)), plus(sum, wrong)
		energy = plus(energy, times(half, plus(times(p.x, p.x), times(p.y, p.y))))
	}
	return each, ratOf(sum), ratOf(energy)
}

// hold asks all calls of values of which no number gets too long.
func hold(t *testing.T, m api.Mesh, u []api.Rat, f api.Poly) {
	t.Helper()
	each, total, energy2 := wantAll(m, u, f)
	if l, e := surface.Each(m, u, f); !slices.Equal(l, each) || e != api.OK {
		t.Errorf("P21.1: Each: %d numbers, error %d", len(l), e)
	}
	if a, e := surface.Total(m, u, f); a != total || e != api.OK {
		t.Errorf("P21.1: Total: %d bytes, error %d", longest(a), e)
	}
	if a, e := surface.Energy2(m, u); a != energy2 || e != api.OK {
		t.Errorf("P21.2: Energy2: %d bytes, error %d", longest(a), e)
	}
}

// longest is how many bytes the longest of numbers has.
func longest(l ...api.Rat) int {
	out := 0
	for _, a := range l {
		out = max(out, len(a.Num.Mag), len(a.Den))
	}
	return out
}

func random() *rand.Rand { return rand.New(rand.NewPCG(217, 218)) }

// natural is a number of n bytes.
func natural(r *rand.Rand, n int) *big.Int {
	bytes := make([]byte, n)
	for i := range bytes {
		bytes[i] = byte(r.Uint32())
	}
	bytes[0] |= 0x80
	return new(big.Int).SetBytes(bytes)
}

// alike are count numbers of n bytes, of either sign, over one of as many.
func alike(r *rand.Rand, count, n int) []api.Rat {
	out, under := []api.Rat(nil), natural(r, n)
	for i := range count {
		x := new(big.Rat).SetFrac(natural(r, n), under)
		if i%3 == 1 {
			x.Neg(x)
		}
		out = append(out, ratOf(x))
	}
	return out
}

// load is 1 and X and 2 Y^2, added.
func load() api.Poly {
	return api.Poly{rat.Of(1), rat.Of(1), rat.Of(0), rat.Of(0), rat.Of(0), rat.Of(2)}
}

// rows is a mesh of squares, two by two, each of two triangles; some edges are segments, of which every other one is Fixed.
func rows() api.Mesh {
	m := api.Mesh{}
	for i := range 9 {
		x, y := big.NewRat(int64(7*(i%3)+i/3), 3), big.NewRat(int64(5*(i/3)), 2)
		m.Points = append(m.Points, api.Point{X: ratOf(x), Y: ratOf(y)})
	}
	for _, a := range []int{0, 1, 3, 4} {
		m.Tris = append(m.Tris, api.Tri{a, a + 1, a + 4}, api.Tri{a + 3, a, a + 4})
	}
	for i, s := range [][2]int{{0, 1}, {2, 1}, {5, 2}, {4, 5}, {4, 0}, {3, 0}} {
		m.Segs = append(m.Segs, api.Seg{A: s[0], B: s[1], Fixed: i%2 == 0})
	}
	return m
}

// TestLengths asks about values of all lengths: they are told as long as their squares have at most 8000 bytes, and so also those that package estimate refuses.
func TestLengths(t *testing.T) {
	r := random()
	for _, n := range []int{1, 30, 3000, 3001, 3900} {
		hold(t, rows(), alike(r, 9, n), load())
	}
	u := slices.Repeat([]api.Rat{rat.Of(0)}, 9) // and one alone, whole or a part of 1
	for _, x := range []*big.Rat{new(big.Rat).SetInt(natural(r, 3900)), new(big.Rat).SetFrac(big.NewInt(1), natural(r, 3900))} {
		u[4] = ratOf(x)
		hold(t, rows(), u, load())
	}
}

// TestTooLong asks about values whose squares are too long, and about such that have little in common.
func TestTooLong(t *testing.T) {
	r := random()
	strange := []api.Rat(nil)
	for range 9 {
		strange = append(strange, alike(r, 1, 3500)...)
	}
	for i, u := range [][]api.Rat{alike(r, 9, 4100), alike(r, 9, 8000), strange} {
		if l, e := surface.Each(rows(), u, load()); len(l) != 0 || e != api.ErrLimit {
			t.Errorf("R7: case %d: Each: %d numbers, error %d", i, len(l), e)
		}
		if a, e := surface.Total(rows(), u, load()); a != (api.Rat{}) || e != api.ErrLimit {
			t.Errorf("R7: case %d: Total: %d bytes, error %d", i, longest(a), e)
		}
		if a, e := surface.Energy2(rows(), u); a != (api.Rat{}) || e != api.ErrLimit {
			t.Errorf("R7: case %d: Energy2: %d bytes, error %d", i, longest(a), e)
		}
	}
}

// TestApart asks about two parts, whose values have nothing in common: each is told, though together they are too long.
func TestApart(t *testing.T) {
	r := random()
	m := api.Mesh{Tris: []api.Tri{{0, 1, 2}, {3, 4, 5}}}
	for _, p := range [][2]int{{0, 0}, {1, 0}, {0, 1}, {5, 5}, {7, 5}, {5, 6}} {
		m.Points = append(m.Points, api.Point{X: rat.Of(p[0]), Y: rat.Of(p[1])})
	}
	u := append(alike(r, 3, 3500), alike(r, 3, 3500)...)
	want, _, _ := wantAll(m, u, load())
	if l, e := surface.Each(m, u, load()); !slices.Equal(l, want) || e != api.OK {
		t.Errorf("P21.1: Each: %d numbers, error %d", len(l), e)
	}
	if a, e := surface.Total(m, u, load()); a != (api.Rat{}) || e != api.ErrLimit {
		t.Errorf("R7: Total: %d bytes, error %d", longest(a), e)
	}
}

// TestMemory holds that nothing handed in is changed, and that the same is answered again.
func TestMemory(t *testing.T) {
	m, u := rows(), alike(random(), 9, 100)
	given := slices.Clone(u)
	for range 2 {
		hold(t, m, u, load())
		l, _ := surface.Each(m, u, load())
		clear(l[:cap(l)])
		if n := rows(); !slices.Equal(u, given) || !slices.Equal(m.Points, n.Points) || !slices.Equal(m.Tris, n.Tris) || !slices.Equal(m.Segs, n.Segs) {
			t.Fatal("R5: what was handed in is changed")
		}
	}
}
