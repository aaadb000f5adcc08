package well_test

import (
	"math/big"
	"math/rand/v2"
	"slices"
	"testing"

	"gusset/api"
	"gusset/well"
)

// hold asks about a plan: First and Check, and once more.
func hold(t *testing.T, name string, p api.Plan, want found) {
	t.Helper()
	for range 2 {
		e, a, b := well.First(p)
		if got := (found{e, a, b}); got != want || well.Check(p) != want.e {
			t.Fatalf("P10.1: %s: %v, not %v; Check %d", name, got, want, well.Check(p))
		}
	}
}

// anySketch is some points of a grid, some segments, some holes. What is wrong in it hangs on wild, from 0 to 3.
func anySketch(r *rand.Rand, wild int) sketch {
	s, n, width := sketch{}, 2+r.IntN(6), 3+r.IntN(6)
	for range n {
		s.points = append(s.points, place{small(r.IntN(width), 1), small(r.IntN(width), 1)})
	}
	if wild < 3 {
		s.points = slices.CompactFunc(s.points, same)
	}
	for range r.IntN(5) {
		s.segs = append(s.segs, anySeg(r, len(s.points), wild))
	}
	for range r.IntN(3) {
		s.holes = append(s.holes, place{small(r.IntN(2*width), 2), small(r.IntN(2*width), 2)})
	}
	return s
}

// anySeg is one between n points: if wild is 2 or more, it may have wrong ends.
func anySeg(r *rand.Rand, n int, wild int) api.Seg {
	s := api.Seg{A: r.IntN(n), B: r.IntN(n), Fixed: r.IntN(2) == 0}
	if s.A == s.B && wild < 2 {
		s.B = (s.A + 1) % n
	}
	if wild >= 2 && r.IntN(20) == 0 {
		s.A = -1
	}
	if wild >= 2 && r.IntN(20) == 0 {
		s.B = n
	}
	return s
}

// TestSketches asks about many plans, in which each kind of fault is frequent, and several at once.
func TestSketches(t *testing.T) {
	r := random()
	kinds := map[api.Errno]int{}
	for i := range 9000 {
		s := anySketch(r, i%4)
		want := s.want()
		kinds[want.e]++
		hold(t, "a sketch", s.plan(), want)
		if i%10 == 0 {
			hold(t, "the same askew", drawn(r, s, 1+i%12).plan(), want)
		}
	}
	for _, e := range []api.Errno{api.OK, api.ErrArg, api.ErrTwice, api.ErrCross, api.ErrAngle, api.ErrHole} {
		if kinds[e] < 100 {
			t.Errorf("error %d is met only %d times", e, kinds[e])
		}
	}
}

func at(x, y int) place { return place{small(x, 1), small(y, 1)} }

// square is one of side 2, with its sides and more.
func square(more ...api.Seg) sketch {
	sides := []api.Seg{{A: 0, B: 1}, {A: 1, B: 2}, {A: 2, B: 3}, {A: 3, B: 0}}
	return sketch{points: []place{at(0, 0), at(2, 0), at(2, 2), at(0, 2)}, segs: append(sides, more...)}
}

func TestExamples(t *testing.T) {
	hold(t, "a square", square().plan(), found{})
	hold(t, "one with both diagonals", square(api.Seg{A: 0, B: 2}, api.Seg{A: 1, B: 3}).plan(), found{api.ErrCross, 5, 4})
	hold(t, "one with a diagonal", square(api.Seg{A: 0, B: 2}).plan(), found{api.ErrAngle, 4, 0})
	triangle := sketch{points: []place{at(0, 0), at(4, 0), at(0, 4)}, segs: []api.Seg{{A: 0, B: 1}, {A: 1, B: 2}, {A: 2, B: 0}}}
	hold(t, "an angle of 45 degrees", triangle.plan(), found{api.ErrAngle, 1, 0})
}

// TestEachRule asks about plans in which one rule is broken, in the ways that its words name.
func TestEachRule(t *testing.T) {
	l := []place{at(0, 0), at(4, 0), at(8, 0), at(0, 4), at(4, 4), at(8, 4), at(2, 0)}
	seg := func(a, b int) api.Seg { return api.Seg{A: a, B: b} }
	for _, c := range []struct {
		name string
		s    sketch
		want found
	}{
		{"nothing", sketch{}, found{}},
		{"one point", sketch{points: l[:1]}, found{}},
		{"a hole alone", sketch{holes: l[:1]}, found{}},
		{"two points", sketch{points: l[:2]}, found{}},
		{"two points that are one", sketch{points: []place{l[0], l[0]}}, found{api.ErrTwice, 1, 0}},
		{"three that are one", sketch{points: []place{l[1], l[0], l[0], l[0]}}, found{api.ErrTwice, 2, 1}},
		{"two twos", sketch{points: []place{l[0], l[1], l[2], l[2], l[0]}}, found{api.ErrTwice, 3, 2}},
		{"both ends one", sketch{points: l[:2], segs: []api.Seg{seg(0, 1), seg(1, 1)}}, found{api.ErrArg, 1, 0}},
		{"a wrong end", sketch{points: l[:2], segs: []api.Seg{seg(0, 1), seg(-1, 1), seg(5, 1)}}, found{api.ErrArg, 1, 0}},
		{"one just too great", sketch{points: l[:2], segs: []api.Seg{seg(0, 1), seg(0, 2)}}, found{api.ErrArg, 1, 0}},
		{"a segment without points", sketch{segs: []api.Seg{seg(0, 1)}}, found{api.ErrArg, 0, 0}},
		{"a point on a segment", sketch{points: l[:3], segs: []api.Seg{seg(0, 2)}}, found{api.ErrCross, 0, 1}},
		{"two points on segments", sketch{points: l, segs: []api.Seg{seg(3, 4), seg(0, 1), seg(0, 2)}}, found{api.ErrCross, 1, 6}},
		{"two points on one", sketch{points: l, segs: []api.Seg{seg(0, 2)}}, found{api.ErrCross, 0, 1}},
		{"a point in its line beyond it", sketch{points: l[:3], segs: []api.Seg{seg(0, 1)}}, found{}},
		{"segments in one line, end to end", sketch{points: l[:3], segs: []api.Seg{seg(0, 1), seg(2, 1)}}, found{}},
		{"segments in one line, apart", sketch{points: append([]place{at(-4, 0)}, l[:3]...), segs: []api.Seg{seg(0, 1), seg(3, 2)}}, found{}},
		{"segments that overlap", sketch{points: l[:3], segs: []api.Seg{seg(1, 0), seg(0, 2)}}, found{api.ErrCross, 1, 1}},
		{"segments that touch", sketch{points: l[:4], segs: []api.Seg{seg(1, 3), seg(0, 2)}}, found{api.ErrCross, 1, 1}},
		{"segments that cross", sketch{points: l[:6], segs: []api.Seg{seg(0, 1), seg(1, 3), seg(4, 0)}}, found{api.ErrCross, 2, 1}},
		{"three that cross", sketch{points: []place{at(0, 0), at(6, 6), at(6, 0), at(0, 6), at(3, -1), at(3, 7)}, segs: []api.Seg{seg(0, 1), seg(4, 5), seg(3, 2)}}, found{api.ErrCross, 1, 0}},
		{"a segment twice", sketch{points: l[:2], segs: []api.Seg{seg(0, 1), seg(0, 1)}}, found{api.ErrCross, 1, 0}},
		{"a segment back", sketch{points: l[:2], segs: []api.Seg{seg(0, 1), seg(1, 0)}}, found{api.ErrCross, 1, 0}},
		{"an end in common by place alone", sketch{points: []place{l[0], l[1], l[1], l[4]}, segs: []api.Seg{seg(0, 1), seg(2, 3)}}, found{api.ErrTwice, 2, 1}},
		{"a hole on a segment", sketch{points: l[:2], segs: []api.Seg{seg(0, 1)}, holes: []place{at(1, 1), at(1, 0)}}, found{api.ErrHole, 1, 0}},
		{"a hole at a segment's end", sketch{points: l[:2], segs: []api.Seg{seg(0, 1)}, holes: []place{at(4, 0)}}, found{api.ErrHole, 0, 0}},
		{"a hole in its line beyond it", sketch{points: l[:2], segs: []api.Seg{seg(0, 1)}, holes: []place{at(5, 0)}}, found{}},
		{"a hole at a lonely point", sketch{points: l[:2], holes: []place{at(1, 1), at(2, 2), at(4, 0), at(0, 0)}}, found{api.ErrHole, 2, 0}},
		{"two holes that are one", sketch{points: l[:2], holes: []place{at(1, 1), at(1, 1)}}, found{}},
		{"holes nowhere near", sketch{points: l[:2], holes: []place{at(100, 1), at(-100, 1)}}, found{}},
	} {
		hold(t, c.name, c.s.plan(), c.want)
		if c.s.want() != c.want {
			t.Errorf("%s: the words say %v", c.name, c.s.want())
		}
	}
}

// TestNearly60 asks about points beside the line of 60 degrees, nearer and nearer, on either side: of 1, the root of 3 comes nearest. (On it lies none.) Both segments are told from either end, in either order.
func TestNearly60(t *testing.T) {
	x, y, three := big.NewInt(1), big.NewInt(1), big.NewInt(3)
	seen := map[bool]int{}
	for len(y.Bytes()) <= 100 {
		above := new(big.Int).Sub(new(big.Int).Mul(y, y), new(big.Int).Mul(three, new(big.Int).Mul(x, x))).Sign() > 0
		p := place{new(big.Rat).SetInt(x), new(big.Rat).SetInt(y)}
		seen[above]++
		want := found{}
		if !above {
			want = found{api.ErrAngle, 1, 0}
		}
		for k := range 8 {
			first, second := api.Seg{A: 1, B: 0}, api.Seg{A: 1, B: 2}
			if k&1 != 0 {
				first.A, first.B = first.B, first.A
			}
			if k&2 != 0 {
				second.A, second.B = second.B, second.A
			}
			segs := []api.Seg{first, second}
			if k&4 != 0 {
				slices.Reverse(segs)
			}
			hold(t, "nearly 60 degrees", sketch{points: []place{at(7, 0), at(0, 0), p}, segs: segs}.plan(), want)
		}
		x, y = new(big.Int).Add(x, y), new(big.Int).Add(y, new(big.Int).Mul(three, x))
		if !above { // both are even then
			x.Rsh(x, 1)
			y.Rsh(y, 1)
		}
	}
	if seen[true] < 100 || seen[false] < 100 {
		t.Errorf("above and not: %v", seen)
	}
}

// full is a plan that holds with as much as there may be: a net of eight by five points, and holes in its meshes.
func full() sketch {
	s := sketch{}
	for i := range api.MaxPoints {
		s.points = append(s.points, at(4*(i%8), 4*(i/8)))
		if i%8 != 0 {
			s.segs = append(s.segs, api.Seg{A: i - 1, B: i, Fixed: i%3 == 0})
		}
		if i >= 8 {
			s.segs = append(s.segs, api.Seg{A: i, B: i - 8})
		}
	}
	s.segs = s.segs[:api.MaxSegs]
	for i := range api.MaxHoles {
		s.holes = append(s.holes, at(2+4*(i%7), 2+4*(i/7)))
	}
	return s
}

// TestCounts asks about as much as there may be, and one more of each, whatever else is wrong.
func TestCounts(t *testing.T) {
	hold(t, "as much as there may be", full().plan(), found{})
	limit := found{e: api.ErrLimit}
	points, segs, holes := full(), full(), full()
	points.points = append(points.points, at(50, 50))
	segs.segs = append(segs.segs, api.Seg{A: 39, B: 38})
	holes.holes = append(holes.holes, at(50, 50))
	hold(t, "41 points", points.plan(), limit)
	hold(t, "61 segments", segs.plan(), limit)
	hold(t, "11 holes", holes.plan(), limit)
	hold(t, "41 wrong points", api.Plan{Points: make([]api.Point, 41)}, limit)
	hold(t, "61 wrong segments", api.Plan{Segs: make([]api.Seg, 61)}, limit)
	hold(t, "11 wrong holes", api.Plan{Holes: make([]api.Point, 11)}, limit)
	hold(t, "40 wrong points", api.Plan{Points: make([]api.Point, 40)}, found{e: api.ErrArg})
}

// TestLongFull asks about as much as there may be of long numbers: every pair is asked about.
func TestLongFull(t *testing.T) {
	s := drawn(random(), full(), 20)
	hold(t, "long numbers", s.plan(), found{})
	s.holes[9] = s.points[20]
	hold(t, "the last hole at a point", s.plan(), found{api.ErrHole, 9, 0})
}

// holding is a sketch that holds, of what can be put in one by one.
func holding(r *rand.Rand) sketch {
	s := sketch{}
	try := func(next sketch) {
		if next.want() == (found{}) {
			s = next
		}
	}
	for range 9 {
		p := place{small(r.IntN(7), 2), small(r.IntN(7), 2)}
		try(sketch{append(slices.Clone(s.points), p), s.segs, s.holes})
	}
	for range 20 {
		try(sketch{s.points, append(slices.Clone(s.segs), anySeg(r, len(s.points), 0)), s.holes})
	}
	for range 3 {
		p := place{small(r.IntN(30), 9), small(r.IntN(30), 9)}
		try(sketch{s.points, s.segs, append(slices.Clone(s.holes), p)})
	}
	return s
}

// TestLaws holds what follows: a plan that holds, holds with less, told otherwise, and drawn elsewhere.
func TestLaws(t *testing.T) {
	r := random()
	for range 60 {
		s := holding(r)
		holds := func(law string, s sketch) {
			t.Helper()
			if e, a, b := well.First(s.plan()); e != api.OK || a != 0 || b != 0 {
				t.Fatalf("P10.2: %s: error %d, %d, %d: %v", law, e, a, b, s)
			}
		}
		holds("as it is", s)
		for i := range s.segs {
			holds("a segment less", sketch{s.points, slices.Delete(slices.Clone(s.segs), i, i+1), s.holes})
		}
		for i := range s.holes {
			holds("a hole less", sketch{s.points, s.segs, slices.Delete(slices.Clone(s.holes), i, i+1)})
		}
		turned := slices.Clone(s.segs)
		for i, u := range turned {
			turned[i].A, turned[i].B = u.B, u.A
		}
		holds("turned round", sketch{s.points, turned, s.holes})
		r.Shuffle(len(turned), func(i, j int) { turned[i], turned[j] = turned[j], turned[i] })
		holds("in another order", sketch{s.points, turned, s.holes})
		holds("moved, turned, drawn larger", drawn(r, s, 1+r.IntN(20)))
	}
}

// TestKeptAsGiven holds that a plan is not changed by being asked about.
func TestKeptAsGiven(t *testing.T) {
	for _, s := range []sketch{full(), square(api.Seg{A: 0, B: 2}, api.Seg{A: 1, B: 3})} {
		p, given := s.plan(), s.plan()
		given.Segs = slices.Clone(p.Segs)
		well.First(p)
		well.Check(p)
		if !slices.Equal(p.Points, given.Points) || !slices.Equal(p.Segs, given.Segs) || !slices.Equal(p.Holes, given.Holes) {
			t.Errorf("R5: the plan is changed")
		}
	}
}
