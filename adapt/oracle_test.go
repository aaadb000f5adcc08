package adapt_test

import (
	"math/big"
	"math/rand/v2"
	"slices"
	"strings"
	"testing"

	"gusset/api"
	"gusset/rat"
	"gusset/whole"
)

// What the answers are held against: the library's numbers, and the chapter's words one by one.

func at(x, y int) api.Point { return api.Point{X: rat.Of(x), Y: rat.Of(y)} }

// ratOf is a number of the library as a Rat, bigOf the other way.
func ratOf(x *big.Rat) api.Rat {
	num := api.Int{Neg: x.Sign() < 0, Mag: api.Nat(x.Num().Bytes())}
	return api.Rat{Num: num, Den: api.Nat(x.Denom().Bytes())}
}

func bigOf(a api.Rat) *big.Rat {
	x := new(big.Rat).SetFrac(new(big.Int).SetBytes([]byte(a.Num.Mag)), new(big.Int).SetBytes([]byte(a.Den)))
	if a.Num.Neg {
		x.Neg(x)
	}
	return x
}

func times(x *big.Rat, y *big.Rat) *big.Rat { return new(big.Rat).Mul(x, y) }
func plus(x *big.Rat, y *big.Rat) *big.Rat  { return new(big.Rat).Add(x, y) }
func minus(x *big.Rat, y *big.Rat) *big.Rat { return new(big.Rat).Sub(x, y) }
func over(x *big.Rat, y *big.Rat) *big.Rat  { return new(big.Rat).Quo(x, y) }

func small(n int, d int) *big.Rat { return big.NewRat(int64(n), int64(d)) }

func part(n int, d int) api.Rat { return ratOf(small(n, d)) }

// power is 2^n, which may be a part.
func power(n int) *big.Rat {
	x := new(big.Rat).SetInt(new(big.Int).Lsh(big.NewInt(1), uint(max(n, -n))))
	if n < 0 {
		x.Inv(x)
	}
	return x
}

// wantMark takes the greatest of those that are left, again and again.
func wantMark(l []api.Rat, theta api.Rat) []int {
	left, all := map[int]*big.Rat{}, new(big.Rat)
	for i, a := range l {
		left[i] = bigOf(a)
		all = plus(all, left[i])
	}
	goal, got, out := times(bigOf(theta), all), new(big.Rat), []int(nil)
	for got.Cmp(goal) < 0 {
		best := -1
		for i := range l {
			if x, is := left[i]; is && (best < 0 || x.Cmp(left[best]) > 0) {
				best = i
			}
		}
		got = plus(got, left[best])
		delete(left, best)
		out = append(out, best)
	}
	slices.Sort(out)
	return out
}

// far2 is how far two points are apart, squared.
func far2(p, q api.Point) *big.Rat {
	x, y := minus(bigOf(p.X), bigOf(q.X)), minus(bigOf(p.Y), bigOf(q.Y))
	return plus(times(x, x), times(y, y))
}

// wantRadius2 is the product of all three sides, squared, over that of four times the area.
func wantRadius2(a, b, c api.Point) *big.Rat {
	firstX, firstY := minus(bigOf(b.X), bigOf(a.X)), minus(bigOf(b.Y), bigOf(a.Y))
	secondX, secondY := minus(bigOf(c.X), bigOf(a.X)), minus(bigOf(c.Y), bigOf(a.Y))
	area2 := minus(times(firstX, secondY), times(firstY, secondX))
	return over(times(far2(a, b), times(far2(b, c), far2(c, a))), times(small(4, 1), times(area2, area2)))
}

// wantScale goes through all powers of 4 that may be, from the least on. It tells whether there is one.
func wantScale(radius2 *big.Rat) (*big.Rat, bool) {
	for k := -190; k <= 190; k++ {
		if x := power(2 * k); x.Cmp(radius2) >= 0 {
			return x, k > -190 || times(x, small(1, 4)).Cmp(radius2) < 0
		}
	}
	return nil, false
}

func wantSizes(m api.Mesh, marked []int, floor2 api.Rat) ([]api.Size, api.Errno) {
	out := []api.Size(nil)
	for _, i := range marked {
		t := m.Tris[i]
		radius2 := wantRadius2(m.Points[t[0]], m.Points[t[1]], m.Points[t[2]])
		if radius2.Cmp(bigOf(floor2)) <= 0 {
			continue
		}
		scale, found := wantScale(radius2)
		if !found {
			return nil, api.ErrLimit
		}
		most := times(scale, small(1, 16))
		if most.Cmp(bigOf(floor2)) < 0 {
			most = bigOf(floor2)
		}
		out = append(out, api.Size{Centre: m.Points[t[0]], Within2: ratOf(times(scale, small(4, 1))), Most2: ratOf(most)})
	}
	return out, api.OK
}

func random() *rand.Rand { return rand.New(rand.NewPCG(221, 222)) }

// natural is a number of n bytes.
func natural(r *rand.Rand, n int) *big.Int {
	bytes := make([]byte, n)
	for i := range bytes {
		bytes[i] = byte(r.Uint32())
	}
	bytes[0] |= 0x80
	return new(big.Int).SetBytes(bytes)
}

// fraction is a number above 0 of n bytes above the stroke and below it (less, if both can be cut).
func fraction(r *rand.Rand, n int) *big.Rat {
	return new(big.Rat).SetFrac(natural(r, n), natural(r, n))
}

// values are count such numbers.
func values(r *rand.Rand, count, n int) []api.Rat {
	out := []api.Rat(nil)
	for range count {
		out = append(out, ratOf(fraction(r, n)))
	}
	return out
}

// ints are small numbers.
func ints(l ...int) []api.Rat {
	out := []api.Rat(nil)
	for _, n := range l {
		out = append(out, rat.Of(n))
	}
	return out
}

// square is two by two, of two triangles.
func square() api.Mesh {
	return api.Mesh{
		Points: []api.Point{at(0, 0), at(2, 0), at(2, 2), at(0, 2)},
		Tris:   []api.Tri{{0, 1, 2}, {0, 2, 3}},
		Segs:   []api.Seg{{A: 0, B: 1, Fixed: true}, {A: 2, B: 1}},
	}
}

// alone is a mesh of one triangle.
func alone(a, b, c api.Point) api.Mesh {
	return api.Mesh{Points: []api.Point{a, b, c}, Tris: []api.Tri{{0, 1, 2}}}
}

// drawer turns points, draws them larger or smaller, and moves them, all by numbers of n bytes.
func drawer(r *rand.Rand, n int) func(p api.Point) api.Point {
	c, d, moveX, moveY := fraction(r, n), fraction(r, n), fraction(r, n), fraction(r, n)
	return func(p api.Point) api.Point {
		x, y := bigOf(p.X), bigOf(p.Y)
		return api.Point{X: ratOf(plus(minus(times(c, x), times(d, y)), moveX)), Y: ratOf(plus(plus(times(d, x), times(c, y)), moveY))}
	}
}

// drawn is a mesh whose points are drawn so.
func drawn(m api.Mesh, draw func(p api.Point) api.Point) api.Mesh {
	out := clonedMesh(m)
	for i, p := range m.Points {
		out.Points[i] = draw(p)
	}
	return out
}

// grid is a mesh of squares, n by n, each of two triangles by either diagonal, told from any corner on, in any order; some are left out.
func grid(r *rand.Rand, n int, out int) api.Mesh {
	m := api.Mesh{}
	for i := range (n + 1) * (n + 1) {
		m.Points = append(m.Points, at(i%(n+1), i/(n+1)))
	}
	for i := range n * n {
		a := i%n + i/n*(n+1)
		b, c, d := a+1, a+n+2, a+n+1
		if r.IntN(2) == 0 {
			a, b, c, d = b, c, d, a
		}
		for _, tri := range []api.Tri{{a, b, c}, {a, c, d}} {
			for range r.IntN(3) {
				tri = api.Tri{tri[1], tri[2], tri[0]}
			}
			m.Tris = append(m.Tris, tri)
		}
	}
	r.Shuffle(len(m.Tris), func(i, j int) { m.Tris[i], m.Tris[j] = m.Tris[j], m.Tris[i] })
	m.Tris = m.Tris[out:]
	return m
}

func clonedMesh(m api.Mesh) api.Mesh {
	return api.Mesh{Points: slices.Clone(m.Points), Tris: slices.Clone(m.Tris), Segs: slices.Clone(m.Segs)}
}

func sameMesh(m, n api.Mesh) bool {
	return slices.Equal(m.Points, n.Points) && slices.Equal(m.Tris, n.Tris) && slices.Equal(m.Segs, n.Segs)
}

func nat(n int) api.Nat { return api.Nat(strings.Repeat("\x01", n)) }

// wrongs are numbers that are not in their one form; long is 1 divided by a number of n bytes, far a whole number of as many.
func wrongs() []api.Rat {
	one := whole.Of(1)
	return []api.Rat{
		{}, {Num: one}, {Num: api.Int{Neg: true}, Den: "\x01"}, {Num: whole.Of(2), Den: "\x04"}, {Den: "\x02"},
		{Num: one, Den: "\x00\x01"}, {Num: api.Int{Mag: "\x00\x01"}, Den: "\x01"}, {Num: api.Int{Mag: nat(40)}, Den: nat(40)},
	}
}

func long(n int) api.Rat { return api.Rat{Num: whole.Of(1), Den: nat(n)} }
func far(n int) api.Rat  { return api.Rat{Num: api.Int{Mag: nat(n)}, Den: "\x01"} }

// must ends a test where a call has an error.
func must(t *testing.T, e api.Errno) {
	t.Helper()
	if e != api.OK {
		t.Fatalf("error %d", e)
	}
}
