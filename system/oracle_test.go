package system_test

import (
	"math"
	"math/big"
	"math/rand/v2"
	"slices"
	"testing"

	"gusset/api"
	"gusset/element"
	"gusset/poly"
	"gusset/rat"
)

// What the answers are held against: the library's numbers, and the chapter's words one by one.

func at(x, y int) api.Point { return api.Point{X: rat.Of(x), Y: rat.Of(y)} }

// ratOf is a number of the library as a Rat, bigOf the other way.
func ratOf(x *big.Rat) api.Rat {
	num := api.Int{Neg: x.Sign() < 0, Mag: api.Nat(x.Num().Bytes())}
	return api.Rat{Num: num, Den: api.Nat(x.Denom().Bytes())}
}

func bigOf(a api.Rat) *big.Rat {
	x := new(big.Rat).SetFrac(new(big.Int).SetBytes([]byte(a.Num.Mag)), new(big.Int).SetBytes([]byte(a.Den)))
	if a.Num.Neg {
		x.Neg(x)
	}
	return x
}

func times(x *big.Rat, y *big.Rat) *big.Rat { return new(big.Rat).Mul(x, y) }
func plus(x *big.Rat, y *big.Rat) *big.Rat  { return new(big.Rat).Add(x, y) }
func minus(x *big.Rat, y *big.Rat) *big.Rat { return new(big.Rat).Sub(x, y) }

func small(n int, d int) *big.Rat { return big.NewRat(int64(n), int64(d)) }

// zeros is so many numbers 0.
func zeros(n int) []*big.Rat {
	out := make([]*big.Rat, n)
	for i := range out {
		out[i] = new(big.Rat)
	}
	return out
}

// isCorner tells whether a point is a corner of a triangle.
func isCorner(m api.Mesh, v int) bool {
	return slices.ContainsFunc(m.Tris, func(t api.Tri) bool { return slices.Contains(t[:], v) })
}

// wantHeld asks all triangles and segments about each point.
func wantHeld(m api.Mesh) []bool {
	out := []bool(nil)
	for v := range m.Points {
		fixed := slices.ContainsFunc(m.Segs, func(s api.Seg) bool { return s.Fixed && (s.A == v || s.B == v) })
		out = append(out, fixed || !isCorner(m, v))
	}
	return out
}

// wantBuild fills a whole matrix, and tells what it has.
func wantBuild(m api.Mesh, f api.Poly, g api.Poly) api.System {
	n := len(m.Points)
	held, b, value, all := wantHeld(m), zeros(n), zeros(n), [][]*big.Rat(nil)
	for range n {
		all = append(all, zeros(n))
	}
	for _, t := range m.Tris {
		stiff, _ := element.Stiff(m.Points[t[0]], m.Points[t[1]], m.Points[t[2]])
		loads, _ := poly.Loads(f, m.Points[t[0]], m.Points[t[1]], m.Points[t[2]])
		for i, v := range t {
			b[v] = plus(b[v], bigOf(loads[i]))
			for k, w := range t {
				all[v][w] = plus(all[v][w], bigOf(stiff[i][k]))
			}
		}
	}
	for v := range value {
		if held[v] && isCorner(m, v) {
			x, _ := poly.Eval(g, m.Points[v])
			value[v] = bigOf(x)
		}
	}
	out := api.System{}
	for i := range n {
		if held[i] {
			out.Rows, out.Right = append(out.Rows, []api.Entry{{Col: i, Val: rat.Of(1)}}), append(out.Right, ratOf(value[i]))
			continue
		}
		row := []api.Entry(nil)
		for k := range n {
			if held[k] {
				b[i] = minus(b[i], times(all[i][k], value[k]))
			} else if all[i][k].Sign() != 0 {
				row = append(row, api.Entry{Col: k, Val: ratOf(all[i][k])})
			}
		}
		out.Rows, out.Right = append(out.Rows, row), append(out.Right, ratOf(b[i]))
	}
	return out
}

// wantTimes and wantResidual go entry by entry.
func wantTimes(s api.System, x []api.Rat) []api.Rat {
	out := []api.Rat(nil)
	for _, row := range s.Rows {
		sum := new(big.Rat)
		for _, e := range row {
			sum = plus(sum, times(bigOf(e.Val), bigOf(x[e.Col])))
		}
		out = append(out, ratOf(sum))
	}
	return out
}

func wantResidual(s api.System, x []api.Rat) []api.Rat {
	out := wantTimes(s, x)
	for i, b := range s.Right {
		out[i] = ratOf(minus(bigOf(b), bigOf(out[i])))
	}
	return out
}

func sameSystem(s, o api.System) bool {
	same := func(a, b []api.Entry) bool { return slices.Equal(a, b) }
	return slices.Equal(s.Right, o.Right) && slices.EqualFunc(s.Rows, o.Rows, same)
}

func isNone(s api.System) bool { return len(s.Rows) == 0 && len(s.Right) == 0 }

// clonedSystem, clonedMesh are such in memory of their own.
func clonedSystem(s api.System) api.System {
	out := api.System{Right: slices.Clone(s.Right)}
	for _, row := range s.Rows {
		out.Rows = append(out.Rows, slices.Clone(row))
	}
	return out
}

func clonedMesh(m api.Mesh) api.Mesh {
	return api.Mesh{Points: slices.Clone(m.Points), Tris: slices.Clone(m.Tris), Segs: slices.Clone(m.Segs)}
}

func sameMesh(m, n api.Mesh) bool {
	return slices.Equal(m.Points, n.Points) && slices.Equal(m.Tris, n.Tris) && slices.Equal(m.Segs, n.Segs)
}

// longest is how many bytes the longest number of a system has.
func longest(s api.System) int {
	out := 0
	note := func(a api.Rat) { out = max(out, len(a.Num.Mag), len(a.Den)) }
	for _, row := range s.Rows {
		for _, e := range row {
			note(e.Val)
		}
	}
	for _, b := range s.Right {
		note(b)
	}
	return out
}

func random() *rand.Rand { return rand.New(rand.NewPCG(181, 182)) }

// fraction is a number of n bytes above the stroke and below it (less, if both can be cut), of either sign.
func fraction(r *rand.Rand, n int) *big.Rat {
	parts := [2][]byte{make([]byte, n), make([]byte, n)}
	for _, part := range parts {
		for i := range part {
			part[i] = byte(r.Uint32())
		}
		part[0] |= 0x80
	}
	x := new(big.Rat).SetFrac(new(big.Int).SetBytes(parts[0]), new(big.Int).SetBytes(parts[1]))
	if r.IntN(2) == 0 {
		x.Neg(x)
	}
	return x
}

// values are count such numbers.
func values(r *rand.Rand, count, n int) []api.Rat {
	out := []api.Rat(nil)
	for range count {
		out = append(out, ratOf(fraction(r, n)))
	}
	return out
}

// polyOf is one of small numbers, anyPoly one of such of n bytes.
func polyOf(l ...int) api.Poly {
	out := api.Poly{}
	for i := range out {
		out[i] = rat.Of(0)
		if i < len(l) {
			out[i] = rat.Of(l[i])
		}
	}
	return out
}

func anyPoly(r *rand.Rand, n int) api.Poly { return api.Poly(values(r, 6, n)) }

// square is two by two, of two triangles, with its sides as segments.
func square(fixed bool) api.Mesh {
	return api.Mesh{
		Points: []api.Point{at(0, 0), at(2, 0), at(2, 2), at(0, 2)},
		Tris:   []api.Tri{{0, 1, 2}, {0, 2, 3}},
		Segs:   []api.Seg{{A: 0, B: 1, Fixed: fixed}, {A: 2, B: 1, Fixed: fixed}, {A: 2, B: 3, Fixed: fixed}, {A: 3, B: 0, Fixed: fixed}},
	}
}

// drawn is a mesh whose points are turned, drawn larger or smaller, and moved, all by numbers of n bytes.
func drawn(r *rand.Rand, m api.Mesh, n int) api.Mesh {
	c, d, moveX, moveY := fraction(r, n), fraction(r, n), fraction(r, n), fraction(r, n)
	out := clonedMesh(m)
	for i, p := range m.Points {
		x, y := bigOf(p.X), bigOf(p.Y)
		out.Points[i] = api.Point{X: ratOf(plus(minus(times(c, x), times(d, y)), moveX)), Y: ratOf(plus(plus(times(d, x), times(c, y)), moveY))}
	}
	return out
}

// net is a mesh of squares, n by n, each of two triangles by either diagonal, told from any corner on, in any order; some are left out, so that points may be no corners. Some edges are segments, of which some are Fixed.
func net(r *rand.Rand, n int, out int, segs int) api.Mesh {
	m := api.Mesh{}
	for i := range (n + 1) * (n + 1) {
		m.Points = append(m.Points, at(i%(n+1), i/(n+1)))
	}
	for i := range n * n {
		a := i%n + i/n*(n+1)
		b, c, d := a+1, a+n+2, a+n+1
		if r.IntN(2) == 0 {
			a, b, c, d = b, c, d, a
		}
		for _, tri := range []api.Tri{{a, b, c}, {a, c, d}} {
			for range r.IntN(3) {
				tri = api.Tri{tri[1], tri[2], tri[0]}
			}
			m.Tris = append(m.Tris, tri)
		}
	}
	r.Shuffle(len(m.Tris), func(i, j int) { m.Tris[i], m.Tris[j] = m.Tris[j], m.Tris[i] })
	m.Tris = m.Tris[out:]
	for range segs {
		t, k := r.IntN(len(m.Tris)), r.IntN(3)
		put(&m, api.Seg{A: m.Tris[t][k], B: m.Tris[t][(k+1)%3], Fixed: r.IntN(3) > 0})
	}
	return m
}

// put puts a segment in, in either way, if it is no other's edge.
func put(m *api.Mesh, s api.Seg) {
	same := func(o api.Seg) bool { return o.A == s.A && o.B == s.B || o.A == s.B && o.B == s.A }
	if slices.ContainsFunc(m.Segs, same) {
		return
	}
	if len(m.Segs)%2 == 0 {
		s.A, s.B = s.B, s.A
	}
	m.Segs = append(m.Segs, s)
}

// framed is a mesh whose edges with nothing across are segments, Fixed all.
func framed(m api.Mesh) api.Mesh {
	for _, t := range m.Tris {
		for k := range t {
			a, b := t[k], t[(k+1)%3]
			back := func(o api.Tri) bool {
				return o[0] == b && o[1] == a || o[1] == b && o[2] == a || o[2] == b && o[0] == a
			}
			if !slices.ContainsFunc(m.Tris, back) {
				m.Segs = append(m.Segs, api.Seg{A: a, B: b, Fixed: true})
			}
		}
	}
	return m
}

// wheel is a point, and others about it, so many times round, with numbers of n bytes: a triangle between each two and it. (More than once round they lie on one another.)
func wheel(r *rand.Rand, others int, round int, n int) api.Mesh {
	near := func(x float64) api.Rat { // a number of n bytes that is nearly x
		under := fraction(r, n).Denom()
		over, _ := new(big.Float).Mul(big.NewFloat(x), new(big.Float).SetInt(under)).Int(nil)
		return ratOf(new(big.Rat).SetFrac(over.Add(over, big.NewInt(int64(r.IntN(1000)))), under))
	}
	m := api.Mesh{Points: []api.Point{{X: near(0.01), Y: near(0.02)}}}
	for i := range others {
		angle, far := 2*math.Pi*float64(round*i)/float64(others), 0.9-0.2*r.Float64()
		m.Points = append(m.Points, api.Point{X: near(far * math.Cos(angle)), Y: near(far * math.Sin(angle))})
		m.Tris = append(m.Tris, api.Tri{1 + i, 1 + (i+1)%others, 0})
	}
	return m
}

// symmetric is a system of n rows, of numbers of so many bytes; about as many in a hundred are there as told.
func symmetric(r *rand.Rand, n int, bytes int, full int) api.System {
	s := api.System{Rows: make([][]api.Entry, n), Right: values(r, n, bytes)}
	for i := range n {
		for k := range i + 1 {
			if r.IntN(100) >= full {
				continue
			}
			val := ratOf(fraction(r, bytes))
			s.Rows[i] = append(s.Rows[i], api.Entry{Col: k, Val: val})
			if k < i {
				s.Rows[k] = append(s.Rows[k], api.Entry{Col: i, Val: val})
			}
		}
	}
	return s
}

// must ends a test where a call has an error.
func must(t *testing.T, e api.Errno) {
	t.Helper()
	if e != api.OK {
		t.Fatalf("error %d", e)
	}
}
