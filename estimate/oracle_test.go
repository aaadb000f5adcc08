package estimate_test

import (
	"math"
	"math/big"
	"math/rand/v2"
	"slices"
	"strings"
	"testing"

	"gusset/api"
	"gusset/mesh"
	"gusset/poly"
	"gusset/rat"
)

// What the answers are held against: the library's numbers, and the chapter's words one by one.

func at(x, y int) api.Point { return api.Point{X: rat.Of(x), Y: rat.Of(y)} }

// ratOf is a number of the library as a Rat, bigOf the other way.
func ratOf(x *big.Rat) api.Rat {
	num := api.Int{Neg: x.Sign() < 0, Mag: api.Nat(x.Num().Bytes())}
	return api.Rat{Num: num, Den: api.Nat(x.Denom().Bytes())}
}

func bigOf(a api.Rat) *big.Rat {
	x := new(big.Rat).SetFrac(new(big.Int).SetBytes([]byte(a.Num.Mag)), new(big.Int).SetBytes([]byte(a.Den)))
	if a.Num.Neg {
		x.Neg(x)
	}
	return x
}

func times(x *big.Rat, y *big.Rat) *big.Rat { return new(big.Rat).Mul(x, y) }
func plus(x *big.Rat, y *big.Rat) *big.Rat  { return new(big.Rat).Add(x, y) }
func minus(x *big.Rat, y *big.Rat) *big.Rat { return new(big.Rat).Sub(x, y) }
func over(x *big.Rat, y *big.Rat) *big.Rat  { return new(big.Rat).Quo(x, y) }

func small(n int, d int) *big.Rat { return big.NewRat(int64(n), int64(d)) }

// place is a point in the library's numbers.
type place struct{ x, y *big.Rat }

func placeOf(p api.Point) place { return place{bigOf(p.X), bigOf(p.Y)} }

func (p place) less(q place) place     { return place{minus(p.x, q.x), minus(p.y, q.y)} }
func (p place) cross(q place) *big.Rat { return minus(times(p.x, q.y), times(p.y, q.x)) }

// ways are those from a triangle's first corner to the others.
func ways(m api.Mesh, t api.Tri) (place, place) {
	a := placeOf(m.Points[t[0]])
	return placeOf(m.Points[t[1]]).less(a), placeOf(m.Points[t[2]]).less(a)
}

// wantArea is half of what both ways span.
func wantArea(m api.Mesh, t api.Tri) *big.Rat {
	b, c := ways(m, t)
	return times(small(1, 2), b.cross(c))
}

// wantSlope solves the equations that a slope has: times the way to another corner it is what the function grows there.
func wantSlope(m api.Mesh, u []api.Rat, t api.Tri) place {
	b, c := ways(m, t)
	growB, growC := minus(bigOf(u[t[1]]), bigOf(u[t[0]])), minus(bigOf(u[t[2]]), bigOf(u[t[0]]))
	under := b.cross(c)
	return place{over(minus(times(growB, c.y), times(growC, b.y)), under), over(minus(times(b.x, growC), times(c.x, growB)), under)}
}

// wantShare looks for the edge among all segments and all triangles.
func wantShare(m api.Mesh, u []api.Rat, t api.Tri, k int) *big.Rat {
	a, b := t[k], t[(k+1)%3]
	for _, s := range m.Segs {
		if s.Fixed && (s.A == a && s.B == b || s.A == b && s.B == a) {
			return new(big.Rat)
		}
	}
	along, p := placeOf(m.Points[b]).less(placeOf(m.Points[a])), wantSlope(m, u, t)
	for _, o := range m.Tris {
		if o[0] == b && o[1] == a || o[1] == b && o[2] == a || o[2] == b && o[0] == a {
			jump := along.cross(p.less(wantSlope(m, u, o)))
			return times(small(1, 2), times(jump, jump))
		}
	}
	jump := along.cross(p)
	return times(jump, jump)
}

// wantEach and wantTotal go triangle by triangle, edge by edge.
func wantEach(m api.Mesh, u []api.Rat, f api.Poly) []api.Rat {
	out := []api.Rat(nil)
	for _, t := range m.Tris {
		square, _ := poly.Square(f, m.Points[t[0]], m.Points[t[1]], m.Points[t[2]])
		sum := times(wantArea(m, t), bigOf(square))
		for k := range t {
			sum = plus(sum, wantShare(m, u, t, k))
		}
		out = append(out, ratOf(sum))
	}
	return out
}

func wantTotal(each []api.Rat) api.Rat {
	sum := new(big.Rat)
	for _, a := range each {
		sum = plus(sum, bigOf(a))
	}
	return ratOf(sum)
}

func wantEnergy2(m api.Mesh, u []api.Rat) api.Rat {
	sum := new(big.Rat)
	for _, t := range m.Tris {
		p := wantSlope(m, u, t)
		sum = plus(sum, times(wantArea(m, t), plus(times(p.x, p.x), times(p.y, p.y))))
	}
	return ratOf(sum)
}

// longest is how many bytes the longest of numbers has.
func longest(l ...api.Rat) int {
	out := 0
	for _, a := range l {
		out = max(out, len(a.Num.Mag), len(a.Den))
	}
	return out
}

func clonedMesh(m api.Mesh) api.Mesh {
	return api.Mesh{Points: slices.Clone(m.Points), Tris: slices.Clone(m.Tris), Segs: slices.Clone(m.Segs)}
}

func sameMesh(m, n api.Mesh) bool {
	return slices.Equal(m.Points, n.Points) && slices.Equal(m.Tris, n.Tris) && slices.Equal(m.Segs, n.Segs)
}

func random() *rand.Rand { return rand.New(rand.NewPCG(211, 212)) }

// natural is a number of n bytes.
func natural(r *rand.Rand, n int) *big.Int {
	bytes := make([]byte, n)
	for i := range bytes {
		bytes[i] = byte(r.Uint32())
	}
	bytes[0] |= 0x80
	return new(big.Int).SetBytes(bytes)
}

// fraction is a number of n bytes above the stroke and below it (less, if both can be cut), of either sign.
func fraction(r *rand.Rand, n int) *big.Rat {
	x := new(big.Rat).SetFrac(natural(r, n), natural(r, n))
	if r.IntN(2) == 0 {
		x.Neg(x)
	}
	return x
}

// values are count such numbers.
func values(r *rand.Rand, count, n int) []api.Rat {
	out := []api.Rat(nil)
	for range count {
		out = append(out, ratOf(fraction(r, n)))
	}
	return out
}

// alike are count numbers, whole ones of n bytes that are divided by one of as many.
func alike(r *rand.Rand, count, n int) []api.Rat {
	out, under := []api.Rat(nil), natural(r, n)
	for range count {
		out = append(out, ratOf(new(big.Rat).SetFrac(natural(r, n), under)))
	}
	return out
}

// ints are small numbers.
func ints(l ...int) []api.Rat {
	out := []api.Rat(nil)
	for _, n := range l {
		out = append(out, rat.Of(n))
	}
	return out
}

// polyOf is one of small numbers, anyPoly one of such of n bytes.
func polyOf(l ...int) api.Poly {
	out := api.Poly{}
	for i := range out {
		out[i] = rat.Of(0)
		if i < len(l) {
			out[i] = rat.Of(l[i])
		}
	}
	return out
}

func anyPoly(r *rand.Rand, n int) api.Poly { return api.Poly(values(r, 6, n)) }

// square is two by two, of two triangles, with its sides as segments.
func square(fixed bool) api.Mesh {
	return api.Mesh{
		Points: []api.Point{at(0, 0), at(2, 0), at(2, 2), at(0, 2)},
		Tris:   []api.Tri{{0, 1, 2}, {0, 2, 3}},
		Segs:   []api.Seg{{A: 0, B: 1, Fixed: fixed}, {A: 2, B: 1, Fixed: fixed}, {A: 2, B: 3, Fixed: fixed}, {A: 3, B: 0, Fixed: fixed}},
	}
}

// drawn is a mesh whose points are turned, drawn larger or smaller, and moved, all by numbers of n bytes.
func drawn(r *rand.Rand, m api.Mesh, n int) api.Mesh {
	c, d, moveX, moveY := fraction(r, n), fraction(r, n), fraction(r, n), fraction(r, n)
	out := clonedMesh(m)
	for i, p := range m.Points {
		x, y := bigOf(p.X), bigOf(p.Y)
		out.Points[i] = api.Point{X: ratOf(plus(minus(times(c, x), times(d, y)), moveX)), Y: ratOf(plus(plus(times(d, x), times(c, y)), moveY))}
	}
	return out
}

// grid is a mesh of squares, n by n, each of two triangles by either diagonal, told from any corner on, in any order; some are left out, so that points may be no corners. Some edges are segments, of which some are Fixed.
func grid(r *rand.Rand, n int, out int, segs int) api.Mesh {
	m := api.Mesh{}
	for i := range (n + 1) * (n + 1) {
		m.Points = append(m.Points, at(i%(n+1), i/(n+1)))
	}
	for i := range n * n {
		a := i%n + i/n*(n+1)
		b, c, d := a+1, a+n+2, a+n+1
		if r.IntN(2) == 0 {
			a, b, c, d = b, c, d, a
		}
		for _, tri := range []api.Tri{{a, b, c}, {a, c, d}} {
			for range r.IntN(3) {
				tri = api.Tri{tri[1], tri[2], tri[0]}
			}
			m.Tris = append(m.Tris, tri)
		}
	}
	r.Shuffle(len(m.Tris), func(i, j int) { m.Tris[i], m.Tris[j] = m.Tris[j], m.Tris[i] })
	m.Tris = m.Tris[out:]
	for range segs {
		t, k := r.IntN(len(m.Tris)), r.IntN(3)
		put(&m, api.Seg{A: m.Tris[t][k], B: m.Tris[t][(k+1)%3], Fixed: r.IntN(3) > 0})
	}
	return m
}

// put puts a segment in, in either way, if it is no other's edge.
func put(m *api.Mesh, s api.Seg) {
	same := func(o api.Seg) bool { return o.A == s.A && o.B == s.B || o.A == s.B && o.B == s.A }
	if slices.ContainsFunc(m.Segs, same) {
		return
	}
	if len(m.Segs)%2 == 0 {
		s.A, s.B = s.B, s.A
	}
	m.Segs = append(m.Segs, s)
}

// framed is a mesh whose edges with nothing across are segments, Fixed all.
func framed(m api.Mesh) api.Mesh {
	for _, t := range m.Tris {
		for k := range t {
			a, b := t[k], t[(k+1)%3]
			back := func(o api.Tri) bool {
				return o[0] == b && o[1] == a || o[1] == b && o[2] == a || o[2] == b && o[0] == a
			}
			if !slices.ContainsFunc(m.Tris, back) {
				m.Segs = append(m.Segs, api.Seg{A: a, B: b, Fixed: true})
			}
		}
	}
	return m
}

// wheel is a point, and others about it, so many times round, with numbers of n bytes: a triangle between each two and it. (More than once round they lie on one another.)
func wheel(r *rand.Rand, others int, round int, n int) api.Mesh {
	near := func(x float64) api.Rat { // a number of n bytes that is nearly x
		under := natural(r, n)
		over, _ := new(big.Float).Mul(big.NewFloat(x), new(big.Float).SetInt(under)).Int(nil)
		return ratOf(new(big.Rat).SetFrac(over.Add(over, big.NewInt(int64(r.IntN(1000)))), under))
	}
	m := api.Mesh{Points: []api.Point{{X: near(0.01), Y: near(0.02)}}}
	for i := range others {
		angle, far := 2*math.Pi*float64(round*i)/float64(others), 0.9-0.2*r.Float64()
		m.Points = append(m.Points, api.Point{X: near(far * math.Cos(angle)), Y: near(far * math.Sin(angle))})
		m.Tris = append(m.Tris, api.Tri{1 + i, 1 + (i+1)%others, 0})
	}
	return m
}

// tangle is so many triangles of any points, most of which lie on one another.
func tangle(r *rand.Rand, points []api.Point, count int) api.Mesh {
	m := api.Mesh{Points: points}
	for len(m.Tris) < count {
		l := r.Perm(len(points))
		more := clonedMesh(m)
		more.Tris = append(more.Tris, api.Tri{l[0], l[1], l[2]})
		if mesh.Check(more) == api.OK {
			m = more
		}
	}
	return m
}

func nat(n int) api.Nat { return api.Nat(strings.Repeat("\x01", n)) }

// must ends a test where a call has an error.
func must(t *testing.T, e api.Errno) {
	t.Helper()
	if e != api.OK {
		t.Fatalf("error %d", e)
	}
}
