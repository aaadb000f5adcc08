package pslg_test

import (
	"math"
	"strings"
	"testing"

	"gusset/api"
	"gusset/pslg"
	"gusset/rat"
	"gusset/whole"
)

// noText holds that a plan has no text.
func noText(t *testing.T, what string, p api.Plan) {
	t.Helper()
	if s, e := pslg.Print(p); s != "" || e != api.ErrArg {
		t.Errorf("P8.2: Print, %s: %q, error %d", what, s, e)
	}
}

func TestPrint(t *testing.T) {
	p := plainPlan(t)
	if s, e := pslg.Print(p); s != plain || e != api.OK {
		t.Errorf("P8.2: Print: %q, error %d", s, e)
	}
	if !same(p, plainPlan(t)) {
		t.Error("R5: Print has changed its plan")
	}
}

func TestPrintNoPoints(t *testing.T) {
	zero := rat.Of(0)
	f := api.Poly{zero, zero, zero, zero, zero, zero}
	want := "pslg\nv 0\ns 0\nh 0\nf 0 0 0 0 0 0\ng 0 0 0 0 0 0\nend\n"
	for _, p := range []api.Plan{{F: f, G: f}, {Points: []api.Point{}, Segs: []api.Seg{}, Holes: []api.Point{}, F: f, G: f}} {
		if s, e := pslg.Print(p); s != want || e != api.OK {
			t.Errorf("P8.2: Print of a plan without points: %q, error %d", s, e)
		}
	}
	noText(t, "of nothing", api.Plan{})
}

// TestTurnedBack holds that Parse turns Print back, and that texts of one plan are printed as one.
func TestTurnedBack(t *testing.T) {
	r := random()
	for i := range 200 {
		text := textOf(r, 1+r.IntN(40), r.IntN(61), r.IntN(11), 1+i%60)
		p := taken(t, text)
		s, e := pslg.Print(p)
		if e != api.OK {
			t.Fatalf("P8.2: Print of the plan of %q: error %d", text, e)
		}
		if q := taken(t, s); !same(p, q) {
			t.Fatalf("P8.3: Parse of Print of the plan of %q: %v", text, q)
		}
		if again, _ := pslg.Print(taken(t, strings.ReplaceAll(text, "\n", "\t \n"))); again != s {
			t.Fatalf("P8.3: blanks turn %q", text)
		}
	}
}

// nines is the number of so many digits 9.
func nines(t *testing.T, n int) api.Int {
	t.Helper()
	power := whole.Of(1)
	for range n {
		power, _ = whole.Mul(power, whole.Of(10))
	}
	out, e := whole.Sub(power, whole.Of(1))
	if e != api.OK {
		t.Fatalf("error %d", e)
	}
	return out
}

// full is a plan with as much of everything as there may be, all of its numbers one number.
func full(a api.Rat) api.Plan {
	p := api.Plan{F: api.Poly{a, a, a, a, a, a}, G: api.Poly{a, a, a, a, a, a}}
	for range 40 {
		p.Points = append(p.Points, api.Point{X: a, Y: a})
	}
	for i := range 60 {
		p.Segs = append(p.Segs, api.Seg{A: 39, B: i % 40, Fixed: i%3 == 0})
	}
	for range 10 {
		p.Holes = append(p.Holes, api.Point{X: a, Y: a})
	}
	return p
}

// TestGreatest prints the greatest plan: all its numbers have 60 digits above the stroke and below it.
func TestGreatest(t *testing.T) {
	greatest := nines(t, 60)
	under, _ := whole.Sub(greatest, whole.Of(1))
	p := full(api.Rat{Num: api.Int{Neg: true, Mag: greatest.Mag}, Den: under.Mag})
	s, e := pslg.Print(p)
	token := "-" + strings.Repeat("9", 60) + "/" + strings.Repeat("9", 59) + "8"
	if e != api.OK || len(s) > 20000 || strings.Count(s, token) != 112 {
		t.Fatalf("P8.2: Print of the greatest plan: %d bytes, error %d", len(s), e)
	}
	if q := taken(t, s); !same(p, q) {
		t.Error("P8.3: Parse of Print of the greatest plan")
	}
}

func TestPrintTooMany(t *testing.T) {
	one := rat.Of(1)
	extra := api.Point{X: one, Y: one}
	points, segs, holes := full(one), full(one), full(one)
	points.Points = append(points.Points, extra)
	segs.Segs = append(segs.Segs, api.Seg{})
	holes.Holes = append(holes.Holes, extra)
	noText(t, "41 points", points)
	noText(t, "61 segments", segs)
	noText(t, "11 holes", holes)
	points.Points = make([]api.Point, 1<<20)
	segs.Segs = make([]api.Seg, 1<<20)
	holes.Holes = make([]api.Point, 1<<20)
	noText(t, "many points", points)
	noText(t, "many segments", segs)
	noText(t, "many holes", holes)
	if _, e := pslg.Print(full(one)); e != api.OK {
		t.Errorf("P8.2: 40 points, 60 segments, 10 holes: error %d", e)
	}
}

func TestPrintEnds(t *testing.T) {
	for _, end := range []int{-1, 3, 4, 10, 39, 100, 999, 1000, math.MaxInt, math.MinInt} {
		for i := range 3 {
			p, q := plainPlan(t), plainPlan(t)
			p.Segs[i].A = end
			q.Segs[i].B = end
			noText(t, "an end A that is no point", p)
			noText(t, "an end B that is no point", q)
		}
	}
	for end := range 3 {
		p := plainPlan(t)
		p.Segs[1] = api.Seg{A: end, B: end, Fixed: true}
		if s, e := pslg.Print(p); e != api.OK || !same(taken(t, s), p) {
			t.Errorf("P8.2: the end %d: %q, error %d", end, s, e)
		}
	}
	noPoints := plainPlan(t)
	noPoints.Points = nil
	noText(t, "segments without points", noPoints)
}

// places are all numbers of a plan.
func places(p *api.Plan) []*api.Rat {
	out := []*api.Rat(nil)
	for i := range p.Points {
		out = append(out, &p.Points[i].X, &p.Points[i].Y)
	}
	for i := range p.Holes {
		out = append(out, &p.Holes[i].X, &p.Holes[i].Y)
	}
	for i := range p.F {
		out = append(out, &p.F[i], &p.G[i])
	}
	return out
}

// TestPrintNumbers puts numbers that rat.Parse would not read in every place.
func TestPrintNumbers(t *testing.T) {
	one, nat := whole.Of(1), func(n int) api.Nat { return api.Nat(strings.Repeat("\x01", n)) }
	long := nines(t, 60)
	tooLong, _ := whole.Add(long, one)
	for i, a := range []api.Rat{
		{}, {Num: one}, {Num: api.Int{Neg: true}, Den: "\x01"}, {Num: whole.Of(2), Den: "\x04"}, {Den: "\x02"}, {Num: one, Den: "\x00\x01"},
		{Num: api.Int{Mag: "\x00\x01"}, Den: "\x01"}, {Num: tooLong, Den: "\x01"}, {Num: api.Int{Neg: true, Mag: tooLong.Mag}, Den: "\x07"}, {Num: one, Den: tooLong.Mag},
		{Num: api.Int{Mag: nat(100)}, Den: "\x01"}, {Num: one, Den: nat(8000)}, {Num: one, Den: nat(8001)}, {Num: api.Int{Mag: nat(8001)}, Den: "\x01"},
		{Num: api.Int{Mag: nat(32001)}, Den: "\x01"},
	} {
		some := plainPlan(t)
		for k := range places(&some) {
			p := plainPlan(t)
			*places(&p)[k] = a
			if s, e := pslg.Print(p); s != "" || e != api.ErrArg {
				t.Errorf("P8.2: Print, number %d in place %d: %q, error %d", i, k, s, e)
			}
		}
	}
	for i, a := range []api.Rat{{Num: long, Den: "\x01"}, {Num: api.Int{Neg: true, Mag: long.Mag}, Den: "\x02"}, {Num: one, Den: long.Mag}} {
		some := plainPlan(t)
		for k := range places(&some) {
			p := plainPlan(t)
			*places(&p)[k] = a
			if s, e := pslg.Print(p); e != api.OK || !same(taken(t, s), p) {
				t.Errorf("P8.2: Print, number %d of 60 digits in place %d: %q, error %d", i, k, s, e)
			}
		}
	}
}
