package run_test

import (
	"cmp"
	"math/big"
	"slices"
	"testing"

	"gusset/api"
	"gusset/poly"
	"gusset/rat"
)

// What the answers are held against: the library's numbers, and the document's words one by one, asked of all that there is.

func at(x, y int) api.Point { return api.Point{X: rat.Of(x), Y: rat.Of(y)} }

// ratOf is a number of the library as a Rat, bigOf the other way.
func ratOf(x *big.Rat) api.Rat {
	num := api.Int{Neg: x.Sign() < 0, Mag: api.Nat(x.Num().Bytes())}
	return api.Rat{Num: num, Den: api.Nat(x.Denom().Bytes())}
}

func bigOf(a api.Rat) *big.Rat {
	x := new(big.Rat).SetFrac(new(big.Int).SetBytes([]byte(a.Num.Mag)), new(big.Int).SetBytes([]byte(a.Den)))
	if a.Num.Neg {
		x.Neg(x)
	}
	return x
}

func times(x *big.Rat, y *big.Rat) *big.Rat { return new(big.Rat).Mul(x, y) }
func plus(x *big.Rat, y *big.Rat) *big.Rat  { return new(big.Rat).Add(x, y) }
func minus(x *big.Rat, y *big.Rat) *big.Rat { return new(big.Rat).Sub(x, y) }
func over(x *big.Rat, y *big.Rat) *big.Rat  { return new(big.Rat).Quo(x, y) }

func small(n int, d int) *big.Rat { return big.NewRat(int64(n), int64(d)) }

func part(n int, d int) api.Rat { return ratOf(small(n, d)) }

// least is the least of numbers.
func least(l ...*big.Rat) *big.Rat {
	return slices.MinFunc(l, func(x, y *big.Rat) int { return x.Cmp(y) })
}

// place is a point of the library's numbers.
type place struct{ x, y *big.Rat }

func placeOf(p api.Point) place { return place{bigOf(p.X), bigOf(p.Y)} }

func places(l []api.Point) []place {
	out := []place(nil)
	for _, p := range l {
		out = append(out, placeOf(p))
	}
	return out
}

func (p place) less(q place) place     { return place{minus(p.x, q.x), minus(p.y, q.y)} }
func (p place) dot(q place) *big.Rat   { return plus(times(p.x, q.x), times(p.y, q.y)) }
func (p place) cross(q place) *big.Rat { return minus(times(p.x, q.y), times(p.y, q.x)) }

// middle is that between two places.
func middle(p, q place) place {
	return place{times(plus(p.x, q.x), small(1, 2)), times(plus(p.y, q.y), small(1, 2))}
}

// far is how far two places are apart, squared.
func far(p, q place) *big.Rat { return p.less(q).dot(p.less(q)) }

// area is twice that of a triangle.
func area(a, b, c place) *big.Rat { return b.less(a).cross(c.less(a)) }

func turn(a, b, c place) int { return area(a, b, c).Sign() }

// on tells whether p is in the line of a and b, and no farther than these are in X and Y.
func on(a, b, p place) bool {
	inside := func(x, y, z *big.Rat) bool { return x.Cmp(z)*y.Cmp(z) <= 0 }
	return turn(a, b, p) == 0 && inside(a.x, b.x, p.x) && inside(a.y, b.y, p.y)
}

// circle is the centre of that through three places, and its radius, squared.
func circle(a, b, c place) (place, *big.Rat) {
	u, v := b.less(a), c.less(a)
	under := times(small(2, 1), u.cross(v))
	x := over(minus(times(v.y, u.dot(u)), times(u.y, v.dot(v))), under)
	y := over(minus(times(u.x, v.dot(v)), times(v.x, u.dot(u))), under)
	centre := place{plus(a.x, x), plus(a.y, y)}
	return centre, far(centre, a)
}

// edge is two points' numbers, in the way in which a triangle has it.
type edge [2]int

func (e edge) back() edge { return edge{e[1], e[0]} }

// thirds is of each edge of a mesh the third corner of its triangle.
func thirds(m api.Mesh) map[edge]int {
	out := map[edge]int{}
	for _, t := range m.Tris {
		for k := range 3 {
			out[edge{t[k], t[(k+1)%3]}] = t[(k+2)%3]
		}
	}
	return out
}

// walls are the segments of a mesh, both ways: whether they are Fixed.
func walls(m api.Mesh) map[edge]bool {
	out := map[edge]bool{}
	for _, s := range m.Segs {
		out[edge{s.A, s.B}], out[edge{s.B, s.A}] = s.Fixed, s.Fixed
	}
	return out
}

// holdShape holds what P24.3 and P2 say of a mesh's triangles and segments alone: it is tidy, nothing is crowded, none is slender.
func holdShape(t *testing.T, m api.Mesh) {
	t.Helper()
	l, third, held := places(m.Points), thirds(m), walls(m)
	if len(third) != 3*len(m.Tris) {
		t.Fatalf("P24.3: an edge stands twice: %v", m.Tris)
	}
	for i, tri := range m.Tris {
		a, b, c := l[tri[0]], l[tri[1]], l[tri[2]]
		if turn(a, b, c) <= 0 {
			t.Fatalf("P24.3: the triangle %v turns to the right", tri)
		}
		centre, radius2 := circle(a, b, c)
		if shortest := least(far(a, b), far(b, c), far(c, a)); radius2.Cmp(times(small(2, 1), shortest)) > 0 {
			t.Fatalf("P2: the triangle %v is slender", tri)
		}
		for k := range 3 {
			e := edge{tri[k], tri[(k+1)%3]}
			across, both := third[e.back()]
			if _, is := held[e]; is {
				corner := l[tri[(k+2)%3]]
				if l[e[0]].less(corner).dot(l[e[1]].less(corner)).Sign() < 0 {
					t.Fatalf("P24.3: the segment %v is crowded", e)
				}
			} else if !both || far(centre, l[across]).Cmp(radius2) < 0 {
				t.Fatalf("P24.3: the edge %v of %v: across %d, %v", e, tri, across, both)
			}
		}
		for _, other := range m.Tris[:i] {
			if !apart(l, tri, other) {
				t.Fatalf("P24.3: the triangles %v, %v lie on one another", tri, other)
			}
		}
	}
}

// apart tells whether the insides of two triangles that turn to the left have no point in common: an edge of one has the other on its right.
func apart(l []place, t, u api.Tri) bool {
	for range 2 {
		for k := range 3 {
			a, b := l[t[k]], l[t[(k+1)%3]]
			if !slices.ContainsFunc(u[:], func(v int) bool { return turn(a, b, l[v]) > 0 }) {
				return true
			}
		}
		t, u = u, t
	}
	return false
}

// covers tells whether a place lies in a triangle of a mesh.
func covers(l []place, tris []api.Tri, p place) bool {
	return slices.ContainsFunc(tris, func(t api.Tri) bool {
		a, b, c := l[t[0]], l[t[1]], l[t[2]]
		return min(turn(a, b, p), turn(b, c, p), turn(c, a, p)) >= 0
	})
}

// all is twice the area of a mesh.
func all(m api.Mesh) *big.Rat {
	l, out := places(m.Points), new(big.Rat)
	for _, t := range m.Tris {
		out = plus(out, area(l[t[0]], l[t[1]], l[t[2]]))
	}
	return out
}

// holdCover holds that the triangles of n, which lie apart, cover just what those of m cover, and that the points of m stand first.
func holdCover(t *testing.T, m, n api.Mesh) {
	t.Helper()
	if len(n.Points) < len(m.Points) || !slices.Equal(n.Points[:len(m.Points)], m.Points) {
		t.Fatalf("P24.3: the domain's points do not stand first: %v", n.Points)
	}
	if all(m).Cmp(all(n)) != 0 {
		t.Fatalf("P24.3: the area is %v, not %v", all(n), all(m))
	}
	l, k := places(m.Points), places(n.Points)
	for _, u := range n.Tris {
		a, b, c := k[u[0]], k[u[1]], k[u[2]]
		for _, p := range []place{a, b, c, middle(middle(a, b), c), middle(a, b), middle(b, c), middle(c, a)} {
			if !covers(l, m.Tris, p) {
				t.Fatalf("P24.3: the triangle %v lies outside", u)
			}
		}
	}
}

// holdParts holds that the segments of n are parts of those of m, Fixed as these, and together those.
func holdParts(t *testing.T, m, n api.Mesh) {
	t.Helper()
	l, k := places(m.Points), places(n.Points)
	long := func(a, b place) *big.Rat { // in X and Y together: along a line that is as good as in all
		d := a.less(b)
		return plus(d.x.Abs(d.x), d.y.Abs(d.y))
	}
	parts := 0
	for _, s := range m.Segs {
		left := long(l[s.A], l[s.B])
		for _, u := range n.Segs {
			if on(l[s.A], l[s.B], k[u.A]) && on(l[s.A], l[s.B], k[u.B]) && s.Fixed == u.Fixed {
				parts++
				left = minus(left, long(k[u.A], k[u.B]))
			}
		}
		if left.Sign() != 0 {
			t.Fatalf("P24.3: the parts of the segment %v are not as long as it is: %v", s, left)
		}
	}
	if parts != len(n.Segs) {
		t.Fatalf("P24.3: %d of %d segments are parts of the domain's", parts, len(n.Segs))
	}
}

// eval is what a polynomial is at a place.
func eval(f api.Poly, p place) *big.Rat {
	out := new(big.Rat)
	for i, x := range []*big.Rat{small(1, 1), p.x, p.y, times(p.x, p.x), times(p.x, p.y), times(p.y, p.y)} {
		out = plus(out, times(bigOf(f[i]), x))
	}
	return out
}

// load is the integral over a triangle of a polynomial times the hat of its first corner, by what it is at the corners and between them.
func load(f api.Poly, a, b, c place) *big.Rat {
	sum := times(small(1, 30), eval(f, a))
	sum = minus(sum, times(small(1, 60), plus(eval(f, b), eval(f, c))))
	sum = plus(sum, times(small(2, 15), plus(eval(f, middle(a, b)), eval(f, middle(a, c)))))
	sum = plus(sum, times(small(1, 15), eval(f, middle(b, c))))
	return times(sum, times(small(1, 2), area(a, b, c)))
}

// slope is that of the function that is linear on a triangle, times twice its area.
func slope(l [3]place, u [3]*big.Rat) place {
	out := place{new(big.Rat), new(big.Rat)}
	for i := range 3 { // the slope of a hat goes straight from the edge that faces its corner
		e := l[(i+2)%3].less(l[(i+1)%3])
		out = place{minus(out.x, times(u[i], e.y)), plus(out.y, times(u[i], e.x))}
	}
	return out
}

// holdValues holds what P4 says: values are the given ones where they are held; and for each function that is linear on each triangle, and 0 there, the integral of both slopes' product is that of the load times it. The hats of the free points are enough for all.
func holdValues(t *testing.T, p api.Plan, m api.Mesh, values []api.Rat) {
	t.Helper()
	if len(values) != len(m.Points) {
		t.Fatalf("P24.3: %d values of %d points", len(values), len(m.Points))
	}
	l, held := places(m.Points), map[int]bool{}
	for _, s := range m.Segs {
		if s.Fixed {
			held[s.A], held[s.B] = true, true
		}
	}
	left := make([]*big.Rat, len(l))
	for v := range left {
		left[v] = new(big.Rat)
	}
	for _, tri := range m.Tris {
		corners := [3]place{l[tri[0]], l[tri[1]], l[tri[2]]}
		double := area(corners[0], corners[1], corners[2])
		s := slope(corners, [3]*big.Rat{bigOf(values[tri[0]]), bigOf(values[tri[1]]), bigOf(values[tri[2]])})
		for i, v := range tri {
			hat := [3]*big.Rat{small(0, 1), small(0, 1), small(0, 1)}
			hat[i] = small(1, 1)
			both := over(s.dot(slope(corners, hat)), times(small(2, 1), double))
			left[v] = plus(left[v], minus(load(p.F, corners[i], corners[(i+1)%3], corners[(i+2)%3]), both))
		}
	}
	for v, x := range left {
		if held[v] {
			x = minus(bigOf(values[v]), eval(p.G, l[v]))
		}
		if x.Sign() != 0 {
			t.Fatalf("P4: point %d, held: %v, leaves %v", v, held[v], x)
		}
	}
}

// unitOf is the least whole number of which all denominators are divisors.
func unitOf(l []api.Rat) *big.Rat {
	unit := big.NewInt(1)
	for _, a := range l {
		den := bigOf(a).Denom()
		unit.Mul(unit, new(big.Int).Quo(den, new(big.Int).GCD(nil, nil, unit, den)))
	}
	return new(big.Rat).SetInt(unit)
}

// wantEach is what chapter 21 says of each triangle, and the sum of all. Values are made whole on the way, as long quotients take their time.
func wantEach(f api.Poly, m api.Mesh, values []api.Rat) ([]api.Rat, api.Rat) {
	l, held, slopes := places(m.Points), walls(m), map[edge]place{} // of a triangle, by each of its edges
	unit := unitOf(values)
	for _, t := range m.Tris {
		corners, u := [3]place{}, [3]*big.Rat{}
		for k, v := range t {
			corners[k], u[k] = l[v], times(unit, bigOf(values[v]))
		}
		way := slope(corners, u)
		double := area(corners[0], corners[1], corners[2])
		for k := range t {
			slopes[edge{t[k], t[(k+1)%3]}] = place{over(way.x, double), over(way.y, double)}
		}
	}
	out, sum := []api.Rat(nil), new(big.Rat)
	for _, t := range m.Tris {
		share := new(big.Rat)
		for k := range t {
			e := edge{t[k], t[(k+1)%3]}
			along, part := l[e[1]].less(l[e[0]]), small(1, 1)
			change, across := slopes[e], slopes[e.back()]
			if across.x != nil {
				change, part = change.less(across), small(1, 2)
			}
			if !held[e] {
				share = plus(share, times(part, times(along.cross(change), along.cross(change))))
			}
		}
		square, _ := poly.Square(f, m.Points[t[0]], m.Points[t[1]], m.Points[t[2]])
		share = plus(over(share, times(unit, unit)), times(bigOf(square), times(small(1, 2), area(l[t[0]], l[t[1]], l[t[2]]))))
		out, sum = append(out, ratOf(share)), plus(sum, share)
	}
	return out, ratOf(sum)
}

// longest is how many bytes the longest of numbers has.
func longest(l ...api.Rat) int {
	out := 0
	for _, a := range l {
		out = max(out, len(a.Num.Mag), len(a.Den))
	}
	return out
}

// shortest is the shortest edge, squared.
func shortest(m api.Mesh) *big.Rat {
	l, out := places(m.Points), []*big.Rat(nil)
	for _, t := range m.Tris {
		out = append(out, far(l[t[0]], l[t[1]]), far(l[t[1]], l[t[2]]), far(l[t[2]], l[t[0]]))
	}
	return least(out...)
}

// wantLeast2 is plan.Least2 of a plan that holds, none of whose segments meet but at ends: then it is the least distance of a point from another one, or from a segment.
func wantLeast2(p api.Plan) *big.Rat {
	l, out := places(p.Points), []*big.Rat(nil)
	for i := range l {
		for _, q := range l[:i] {
			out = append(out, far(l[i], q))
		}
		for _, s := range p.Segs {
			a, b := l[s.A], l[s.B]
			way, from := b.less(a), l[i].less(a)
			if along := way.dot(from); i != s.A && i != s.B && along.Sign() > 0 && along.Cmp(way.dot(way)) < 0 {
				out = append(out, over(times(way.cross(from), way.cross(from)), way.dot(way)))
			}
		}
	}
	return least(out...)
}

// regions tells what a plan's segments part the plane into. Its lines are drawn slanted, so that no two points are one above the other.
type regions struct {
	points []place
	segs   []api.Seg
	next   map[edge]edge // along the region to the left
}

// slanted is a place as it is drawn. (Points have small numbers here.)
func slanted(p place) place { return place{minus(times(small(1000000, 1), p.x), p.y), p.y} }

func regionsOf(p api.Plan) regions {
	out := regions{segs: p.Segs, next: map[edge]edge{}}
	for _, q := range places(p.Points) {
		out.points = append(out.points, slanted(q))
	}
	for v := range out.points {
		ways := []edge(nil)
		for _, s := range p.Segs {
			if s.A == v {
				ways = append(ways, edge{s.A, s.B})
			}
			if s.B == v {
				ways = append(ways, edge{s.B, s.A})
			}
		}
		slices.SortFunc(ways, out.around)
		for i, e := range ways {
			out.next[e.back()] = ways[(i+len(ways)-1)%len(ways)]
		}
	}
	return out
}

// around ranges ways from one point counterclockwise.
func (r regions) around(e, f edge) int {
	u, v := r.points[e[1]].less(r.points[e[0]]), r.points[f[1]].less(r.points[f[0]])
	return cmp.Or(cmp.Compare(u.x.Sign(), v.x.Sign()), -u.cross(v).Sign())
}

// of is one of the edges of the region in which a place lies, always the same; none, if that is the one outside. The place is on no segment.
func (r regions) of(p place) (edge, bool) {
	first, height := edge{}, (*big.Rat)(nil) // the lowest edge above
	for _, s := range r.segs {
		a, b := r.points[s.A], r.points[s.B]
		e := edge{s.A, s.B}
		if a.x.Cmp(b.x) < 0 {
			a, b, e = b, a, e.back()
		}
		if b.x.Cmp(p.x) >= 0 || a.x.Cmp(p.x) <= 0 {
			continue
		}
		y := plus(b.y, over(times(minus(a.y, b.y), minus(p.x, b.x)), minus(a.x, b.x)))
		if y.Cmp(p.y) > 0 && (height == nil || y.Cmp(height) < 0) {
			first, height = e, y
		}
	}
	if height == nil {
		return edge{}, false
	}
	sum, top, name := new(big.Rat), r.points[first[0]], first
	for e := first; ; {
		sum = plus(sum, r.points[e[0]].cross(r.points[e[1]]))
		if r.points[e[0]].y.Cmp(top.y) > 0 {
			top = r.points[e[0]]
		}
		if slices.Compare(e[:], name[:]) < 0 {
			name = e
		}
		if e = r.next[e]; e == first {
			break
		}
	}
	if sum.Sign() > 0 { // it goes round the region
		return name, true
	}
	return r.of(top)
}

// wantIn tells whether a place that is on no segment lies in the domain of a plan that holds.
func (r regions) wantIn(p api.Plan, q place) bool {
	name, inner := r.of(slanted(q))
	return inner && !slices.ContainsFunc(p.Holes, func(h api.Point) bool {
		other, found := r.of(slanted(placeOf(h)))
		return found && other == name
	})
}

func sameMesh(m, n api.Mesh) bool {
	return slices.Equal(m.Points, n.Points) && slices.Equal(m.Tris, n.Tris) && slices.Equal(m.Segs, n.Segs)
}

func sameResult(r, s api.Result) bool {
	return sameMesh(r.Mesh, s.Mesh) && slices.Equal(r.Values, s.Values) && r.Status == s.Status && r.Rounds == s.Rounds && r.Eta2 == s.Eta2
}

// must ends a test where a call has an error.
func must(t *testing.T, e api.Errno) {
	t.Helper()
	if e != api.OK {
		t.Fatalf("error %d", e)
	}
}
