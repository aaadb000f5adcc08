package run_test

import (
	"math"
	"math/big"
	"slices"
	"strings"
	"testing"

	"gusset/api"
	"gusset/cg"
	"gusset/estimate"
	"gusset/poly"
	"gusset/rat"
	"gusset/run"
	"gusset/system"
)

// TestExample runs the square of side 2, all of whose sides are Fixed, without a round.
func TestExample(t *testing.T) {
	p := params(4, 0)
	r, e := hold(t, square("dddd", unit, none), p, nil)
	must(t, e)
	if r.Status != api.Rounds || r.Rounds != 0 || len(r.Mesh.Tris) != 2 || r.Eta2 != rat.Of(8) || !slices.Equal(r.Values, slices.Repeat([]api.Rat{rat.Of(0)}, 4)) {
		t.Errorf("P24.3: %v", r)
	}
	for _, c := range []struct {
		tol2   api.Rat
		status int
	}{{rat.Of(8), api.Converged}, {part(8000001, 1000000), api.Converged}, {part(7999999, 1000000), api.Rounds}} {
		p.Tol2 = c.tol2
		if r, e := hold(t, square("dddd", unit, none), p, nil); r.Status != c.status || e != api.OK {
			t.Errorf("P5: tolerance %v: status %d, error %d", c.tol2, r.Status, e)
		}
	}
}

// TestJustConverged runs with the tolerance that the estimate just is after some rounds, and with a bit less: the first mesh that is good enough is told, however many rounds there may be.
func TestJustConverged(t *testing.T) {
	bit := small(1, 1<<40)
	for rounds := range 3 {
		p := params(300, rounds)
		p.Floor2 = part(1, 40)
		want, e := hold(t, square("dddd", unit, none), p, []int{1, 2, 3})
		must(t, e)
		if want.Rounds != rounds {
			t.Fatalf("%d rounds", want.Rounds)
		}
		p.Rounds++
		for i, tol2 := range []*big.Rat{bigOf(want.Eta2), plus(bigOf(want.Eta2), bit), minus(bigOf(want.Eta2), bit)} {
			p.Tol2 = ratOf(tol2)
			must(t, run.Check(p))
			r, e := hold(t, square("dddd", unit, none), p, []int{1, 2, 3})
			if i < 2 && (r.Status != api.Converged || r.Rounds != rounds || !sameMesh(r.Mesh, want.Mesh)) || i == 2 && r.Rounds == rounds && r.Status == api.Converged {
				t.Errorf("P5: %d rounds, case %d: status %d after %d rounds, error %d", rounds, i, r.Status, r.Rounds, e)
			}
		}
	}
}

// TestLinear runs without a load, with boundary's values that are linear: they are so everywhere, and nothing is wrong with them.
func TestLinear(t *testing.T) {
	r := random()
	for i := range 12 {
		d := draft(r)
		for k := range d.Segs {
			d.Segs[k].Fixed = true
		}
		d.F, d.G = polyOf(), polyOf(r.IntN(9)-4, r.IntN(9)-4, r.IntN(9)-4)
		text := textOf(t, d)
		if _, _, e := run.Domain(text); e != api.OK {
			continue
		}
		result, e := hold(t, text, params(150, i%3), nil)
		must(t, e)
		if result.Status != api.Converged || result.Rounds != 0 || result.Eta2 != rat.Of(0) {
			t.Errorf("P5: status %d after %d rounds, estimate %v", result.Status, result.Rounds, result.Eta2)
		}
		for v, q := range result.Mesh.Points {
			if want, _ := poly.Eval(d.G, q); result.Values[v] != want {
				t.Errorf("P4: point %d: %v, not %v", v, result.Values[v], want)
			}
		}
	}
}

// TestGradients holds that conjugate gradients tell the same values as elimination.
func TestGradients(t *testing.T) {
	for i, text := range []string{square("dddd", unit, none), square("dnnd", "1 2 0 3 0 1", "1 0 1 0 0 2"), square("nndn", "0 0 1 0 1 0", "2 1 0 0 1 0")} {
		p := params(30, 1)
		p.Floor2 = part(1, 2)
		r, e := hold(t, text, p, nil)
		must(t, e)
		plan, _, _ := run.Domain(text)
		s, e := system.Build(r.Mesh, plan.F, plan.G)
		must(t, e)
		start := slices.Repeat([]api.Rat{rat.Of(0)}, len(r.Values))
		if u, steps, e := cg.Solve(s, start); !slices.Equal(u, r.Values) || e != api.OK {
			t.Errorf("P4: case %d: after %d steps: error %d", i, steps, e)
		}
	}
}

// TestFloors runs with floors just at the circles' radius, squared, which is 2: where it is not above the floor, no triangle is asked to be smaller.
func TestFloors(t *testing.T) {
	for _, c := range []struct {
		floor2         api.Rat
		status, rounds int
	}{{rat.Of(2), api.Floor, 0}, {rat.Of(50), api.Floor, 0}, {great(50), api.Floor, 0}, {part(1999999, 1000000), api.Rounds, 1}, {part(1, 2), api.Rounds, 1}} {
		p := params(60, 1)
		p.Floor2 = c.floor2
		if r, e := hold(t, square("dddd", unit, none), p, nil); r.Status != c.status || r.Rounds != c.rounds || e != api.OK {
			t.Errorf("P24.3: floor %v: status %d after %d rounds, error %d", c.floor2, r.Status, r.Rounds, e)
		}
	}
	p := params(60, 20) // as long as there is something above the floor
	p.Floor2 = part(1, 2)
	if r, e := hold(t, square("dddd", unit, none), p, nil); r.Status != api.Floor || r.Rounds == 0 || e != api.OK {
		t.Errorf("P24.3: status %d after %d rounds, error %d", r.Status, r.Rounds, e)
	}
}

// TestManySizes runs where each triangle asks for a size: more than 100 there can't be, at once or in all.
func TestManySizes(t *testing.T) {
	p := api.Params{Budget: 400, Rounds: 9, Tol2: rat.Of(0), Theta: rat.Of(1), Floor2: part(1, 3)}
	for _, c := range []struct {
		long           int
		status, rounds int
	}{{40, api.Floor, 1}, {100, api.Floor, 0}} {
		text := strip(c.long)
		r, e := hold(t, text, p, nil)
		if r.Status != c.status || r.Rounds > c.rounds || e != api.OK {
			t.Errorf("P24.3: a strip of %d: status %d after %d rounds, error %d", c.long, r.Status, r.Rounds, e)
		}
	}
	r, e := hold(t, square("dddd", unit, none), p, nil)
	if r.Status != api.Floor || e != api.OK {
		t.Errorf("P24.3: status %d after %d rounds, error %d", r.Status, r.Rounds, e)
	}
}

// TestHundredSizes runs with a part of the estimate that just 100 triangles have, or 101: with 100 sizes a round is begun, with more there is none.
func TestHundredSizes(t *testing.T) {
	p := params(400, 0)
	first, e := hold(t, strip(100), p, nil)
	must(t, e)
	plan, _, _ := run.Domain(strip(100))
	l, e := estimate.Each(first.Mesh, first.Values, plan.F)
	must(t, e)
	shares, sum := []*big.Rat(nil), new(big.Rat)
	for _, a := range l {
		shares = append(shares, bigOf(a))
	}
	slices.SortFunc(shares, func(x, y *big.Rat) int { return y.Cmp(x) })
	for k := 1; k < len(shares); k++ {
		sum = plus(sum, shares[k-1])
		p.Rounds, p.Theta = 1, ratOf(over(sum, bigOf(first.Eta2)))
		if k < 98 || k > 103 {
			continue
		}
		if n := len(next(t, plan.F, p, first)); n != k {
			t.Fatalf("%d sizes, not %d", n, k)
		}
		r, e := hold(t, strip(100), p, nil)
		if ended := r.Status == api.Floor && r.Rounds == 0; ended != (k > 100) {
			t.Errorf("P24.3: %d sizes: status %d after %d rounds, error %d", k, r.Status, r.Rounds, e)
		}
	}
}

// TestBudgets runs with all budgets: too little is told, and what is enough tells the same whatever it is; a domain that needs no points more needs no budget.
func TestBudgets(t *testing.T) {
	text := strip(4)
	enough := -1
	want := api.Result{}
	for budget := range 41 {
		r, e := hold(t, text, params(budget, 0), nil)
		if e == api.OK && enough < 0 {
			enough, want = budget, r
		}
		if (e == api.OK) != (enough >= 0) || !sameResult(r, want) {
			t.Errorf("P24.3: budget %d: error %d", budget, e)
		}
	}
	if enough != len(want.Mesh.Points) {
		t.Errorf("P24.3: %d points are enough, %d were put in", enough, len(want.Mesh.Points))
	}
	if r, e := hold(t, square("dddd", unit, none), params(0, 0), nil); len(r.Mesh.Points) != 4 || e != api.OK {
		t.Errorf("P24.3: budget 0: %d points, error %d", len(r.Mesh.Points), e)
	}
	for budget := range 6 {
		p := params(budget, 1)
		p.Floor2 = part(1, 2)
		if _, e := hold(t, square("dddd", unit, none), p, nil); e != api.ErrBudget {
			t.Errorf("P24.3: budget %d, a round: error %d", budget, e)
		}
	}
}

// TestPicks runs with as many picks as there may be, and one more, whatever they are.
func TestPicks(t *testing.T) {
	p := params(200, 1)
	for _, pick := range []int{0, 1, -1, 12345, math.MaxInt, math.MinInt} {
		picks := slices.Repeat([]int{pick}, 5000)
		if _, e := hold(t, square("dndd", unit, none), p, picks); e != api.OK {
			t.Errorf("P24.3: picks %d: error %d", pick, e)
		}
		if r, e := run.Run(square("dndd", unit, none), p, append(picks, pick)); e != api.ErrLimit || !sameResult(r, api.Result{}) {
			t.Errorf("P24.3: a pick too many: %v, error %d", r, e)
		}
	}
}

// TestOrder holds that a text's error goes ahead of that of the parameters, and this one of that of the picks.
func TestOrder(t *testing.T) {
	good, wrong, many := params(9, 0), api.Params{}, make([]int, 5001)
	text := square("dddd", unit, none)
	for i, c := range []struct {
		text  string
		p     api.Params
		picks []int
		want  api.Errno
	}{
		{"", wrong, many, api.ErrSyntax}, {strings.Repeat(" ", 20001), wrong, nil, api.ErrLimit}, {square("nnnn", unit, none), wrong, many, api.ErrFree},
		{strings.Replace(text, "h 0", "h 1 1 1", 1), wrong, many, api.ErrEmpty}, {text, wrong, many, api.ErrArg}, {text, good, many, api.ErrLimit},
		{strip(9), params(0, 0), many, api.ErrLimit}, {strip(9), params(0, 0), nil, api.ErrBudget},
	} {
		if r, e := run.Run(c.text, c.p, c.picks); e != c.want || !sameResult(r, api.Result{}) {
			t.Errorf("P24.3: case %d: %v, error %d, not %d", i, r, e, c.want)
		}
	}
}

// TestLongNumbers runs plans whose numbers have as many digits as a text lets them have: it ends, and tells nothing that is wrong.
func TestLongNumbers(t *testing.T) {
	big60, under := strings.Repeat("9", 60), "/"+strings.Repeat("7", 59)+"1"
	for i, text := range []string{
		"pslg v 4 0 0 " + big60 + " 0 " + big60 + " " + big60 + " 0 " + big60 + " s 4 0 1 d 1 2 d 2 3 n 3 0 d h 0 f " + unit + " g " + none + " end",
		"pslg v 4 0 0 1" + under + " 0 1" + under + " 1" + under + " 0 1" + under + " s 4 0 1 d 1 2 n 2 3 d 3 0 d h 0 f " + unit + " g " + none + " end",
		"pslg v 4 0 0 " + big60 + "/8 1/" + big60 + " 7" + under + " " + big60 + "/9 -1/3 " + big60 + "/9 s 4 0 1 d 1 2 d 2 3 n 3 0 d h 0 f " + unit + " g " + none + " end",
	} {
		if _, _, e := run.Domain(text); e != api.OK {
			continue
		}
		for rounds := range 3 {
			p := params(40, rounds)
			p.Floor2 = long(50)
			if _, e := hold(t, text, p, nil); i < 2 && e != api.OK {
				t.Errorf("P24.3: case %d, %d rounds: error %d", i, rounds, e)
			}
		}
	}
}

// TestMemory holds that nothing handed in is changed, that what is answered is memory of its own, and that the same is answered again.
func TestMemory(t *testing.T) {
	text, p, picks := square("dndd", unit, none), params(100, 1), []int{5, -3, 8, 1, 9}
	p.Floor2 = part(1, 4)
	given := slices.Clone(picks)
	first, e := run.Run(text, p, picks[:4])
	must(t, e)
	kept := first
	kept.Mesh = api.Mesh{Points: slices.Clone(first.Mesh.Points), Tris: slices.Clone(first.Mesh.Tris), Segs: slices.Clone(first.Mesh.Segs)}
	kept.Values = slices.Clone(first.Values)
	for range 3 {
		r, e := run.Run(text, p, picks[:4])
		if !sameResult(r, kept) || e != api.OK {
			t.Fatalf("R6: asked again: error %d, %v", e, r)
		}
		if !slices.Equal(picks, given) {
			t.Fatal("R5: what was handed in is changed")
		}
		clear(r.Mesh.Points[:cap(r.Mesh.Points)])
		clear(r.Mesh.Tris[:cap(r.Mesh.Tris)])
		clear(r.Mesh.Segs[:cap(r.Mesh.Segs)])
		if !slices.Equal(r.Values, kept.Values) {
			t.Fatal("R5: two lists of one answer share memory")
		}
		clear(r.Values[:cap(r.Values)])
	}
}
