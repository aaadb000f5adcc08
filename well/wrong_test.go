package well_test

import (
	"math"
	"slices"
	"strings"
	"testing"

	"gusset/api"
	"gusset/rat"
	"gusset/whole"
)

// wrongPoint is one that may not be asked.
type wrongPoint struct {
	p api.Point
	e api.Errno
}

// longs are numbers of more than 100 bytes, wrongs ones that are not in their one form.
func longs() []api.Rat {
	nat := func(n int) api.Nat { return api.Nat(strings.Repeat("\x01", n)) }
	return []api.Rat{{Num: api.Int{Mag: nat(101)}, Den: "\x01"}, {Num: whole.Of(1), Den: nat(101)}, {Num: whole.Of(1), Den: nat(8001)}}
}

func wrongs() []api.Rat {
	return []api.Rat{
		{Num: whole.Of(2), Den: "\x04"}, {Num: api.Int{Neg: true}, Den: "\x01"}, {}, {Num: whole.Of(1), Den: "\x00\x01"},
		{Num: api.Int{Mag: "\x00\x01"}, Den: "\x01"},
	}
}

// wrongPoints are such: too long, not in their one form, and both.
func wrongPoints() []wrongPoint {
	good, uncut := rat.Of(1), wrongs()[0]
	out := []wrongPoint(nil)
	for _, long := range longs() {
		out = append(out, wrongPoint{api.Point{X: long, Y: good}, api.ErrLimit}, wrongPoint{api.Point{X: good, Y: long}, api.ErrLimit})
		out = append(out, wrongPoint{api.Point{X: uncut, Y: long}, api.ErrLimit}, wrongPoint{api.Point{X: long, Y: uncut}, api.ErrLimit})
	}
	for _, wrong := range wrongs() {
		out = append(out, wrongPoint{api.Point{X: wrong, Y: good}, api.ErrArg}, wrongPoint{api.Point{X: good, Y: wrong}, api.ErrArg})
	}
	return out
}

// spoiled is a plan of three points and three holes, with a wrong F, and a wrong segment; points and holes are told as one row.
func spoiled(row []api.Point) api.Plan {
	return api.Plan{Points: row[:3], Segs: []api.Seg{{A: -1}}, Holes: row[3:]}
}

// TestWrongPoints puts one or two points that may not be asked in every place, of points and of holes: the first one's error is told, ahead of all but the counts.
func TestWrongPoints(t *testing.T) {
	wrong := wrongPoints()
	for _, w := range wrong {
		for _, other := range wrong {
			for first := range 6 {
				for second := first; second < 6; second++ {
					row := slices.Repeat([]api.Point{at(1, 1).point()}, 6)
					row[second] = other.p
					row[first] = w.p
					hold(t, "a wrong point", spoiled(row), found{e: w.e})
				}
			}
		}
		hold(t, "a wrong point alone", api.Plan{Points: []api.Point{w.p}}, found{e: w.e})
		hold(t, "a wrong hole alone", api.Plan{Holes: []api.Point{w.p}}, found{e: w.e})
	}
}

// TestWrongPolys puts a number that may not be asked in every place of F and of G: it is an ErrArg, however long it be, ahead of the segments.
func TestWrongPolys(t *testing.T) {
	for _, wrong := range append(longs(), wrongs()...) {
		for i := range 6 {
			first, second := square(), square(api.Seg{A: 0, B: 9})
			p, q := first.plan(), second.plan()
			p.F[i], q.G[i] = wrong, wrong
			hold(t, "a wrong F", p, found{e: api.ErrArg})
			hold(t, "a wrong G", q, found{e: api.ErrArg})
		}
	}
	hold(t, "the wrong segment alone", square(api.Seg{A: 0, B: 9}).plan(), found{api.ErrArg, 4, 0})
}

// TestLongest puts numbers of 100 bytes everywhere in every place: they may be asked.
func TestLongest(t *testing.T) {
	number := ratOf(fraction(random(), 100))
	if len(number.Num.Mag) != 100 || len(number.Den) != 100 {
		t.Fatalf("%d and %d bytes", len(number.Num.Mag), len(number.Den))
	}
	for i := range 6 {
		p := square().plan()
		p.F[i], p.G[5-i] = number, number
		p.Holes = []api.Point{{X: number, Y: number}}
		hold(t, "long numbers", p, found{})
	}
	p := square().plan()
	p.Points = append(p.Points, api.Point{X: number, Y: number})
	hold(t, "a long point", p, found{})
	p.Holes = []api.Point{p.Points[4]}
	hold(t, "a hole there", p, found{api.ErrHole, 0, 0})
}

// TestWrongEnds puts ends that are no point's number in each place, among segments that cross.
func TestWrongEnds(t *testing.T) {
	for _, end := range []int{-1, 4, 5, math.MaxInt, math.MinInt} {
		for _, wrong := range []api.Seg{{A: end, B: 1}, {A: 1, B: end}, {A: end, B: end}, {A: end, B: -1}, {A: 2, B: 2}} {
			for k := range 3 {
				s := square()
				s.segs = slices.Insert([]api.Seg{{A: 0, B: 2}, {A: 1, B: 3}}, k, wrong)
				hold(t, "a wrong end", s.plan(), found{api.ErrArg, k, 0})
				s.segs = append(s.segs, wrong)
				hold(t, "two wrong ends", s.plan(), found{api.ErrArg, k, 0})
			}
		}
	}
}

// slip is a fault that can be put into the plan of drawer: what is told of it, if it is the first.
type slip struct {
	want found
	put  func(p *api.Plan)
}

// drawer is a plan that holds, of pieces that stand apart, so that each slip spoils one of them alone.
func drawer() api.Plan {
	s := sketch{
		points: []place{
			at(0, 0), at(10, 0), at(100, 0), // two that may become one, one beside
			at(0, 100), at(10, 100), at(5, 103), // a segment and a point over it
			at(100, 100), at(110, 110), at(120, 120), at(110, 90), // two segments that may cross
			at(200, 0), at(210, 0), at(200, 10), // an angle
			at(300, 0), at(310, 0), // one for a hole, and one to lose an end
		},
		segs: []api.Seg{{A: 3, B: 4}, {A: 6, B: 7}, {A: 8, B: 9}, {A: 10, B: 11}, {A: 12, B: 10}, {A: 13, B: 14}},
	}
	for i := range api.MaxHoles {
		s.holes = append(s.holes, at(500+i, 500))
	}
	return s.plan()
}

// slips are all of them, in the order in which they are told.
func slips() []slip {
	return []slip{
		{found{api.ErrLimit, 0, 0}, func(p *api.Plan) { p.Holes = append(p.Holes, at(600, 600).point()) }},
		{found{api.ErrArg, 0, 0}, func(p *api.Plan) { p.Points[2].Y = api.Rat{} }},
		{found{api.ErrLimit, 0, 0}, func(p *api.Plan) { p.Holes[4].X = longs()[0] }},
		{found{api.ErrArg, 0, 0}, func(p *api.Plan) { p.G[3] = longs()[0] }},
		{found{api.ErrArg, 5, 0}, func(p *api.Plan) { p.Segs[5].B = len(p.Points) }},
		{found{api.ErrTwice, 1, 0}, func(p *api.Plan) { p.Points[1] = p.Points[0] }},
		{found{api.ErrCross, 0, 5}, func(p *api.Plan) { p.Points[5] = at(5, 100).point() }},
		{found{api.ErrCross, 2, 1}, func(p *api.Plan) { p.Points[8] = at(100, 110).point() }},
		{found{api.ErrAngle, 4, 3}, func(p *api.Plan) { p.Points[12] = at(210, 17).point() }},
		{found{api.ErrHole, 7, 0}, func(p *api.Plan) { p.Holes[7] = at(300, 0).point() }},
	}
}

// TestFirstOfSeveral puts in each set of slips: the first one is told.
func TestFirstOfSeveral(t *testing.T) {
	all := slips()
	for set := range 1 << len(all) {
		p, want := drawer(), found{}
		for i := len(all) - 1; i >= 0; i-- {
			if set>>i&1 != 0 {
				all[i].put(&p)
				want = all[i].want
			}
		}
		hold(t, "several slips", p, want)
	}
}
