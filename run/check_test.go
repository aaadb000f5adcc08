package run_test

import (
	"math"
	"strings"
	"testing"

	"gusset/api"
	"gusset/rat"
	"gusset/run"
	"gusset/whole"
)

func nat(n int) api.Nat { return api.Nat(strings.Repeat("\x01", n)) }

// wrongs are numbers that are not in their one form; long is 1 divided by a number of n bytes, great a whole number of as many.
func wrongs() []api.Rat {
	one := whole.Of(1)
	return []api.Rat{
		{}, {Num: one}, {Num: api.Int{Neg: true}, Den: "\x01"}, {Num: whole.Of(2), Den: "\x04"}, {Den: "\x02"},
		{Num: one, Den: "\x00\x01"}, {Num: api.Int{Mag: "\x00\x01"}, Den: "\x01"}, {Num: api.Int{Mag: nat(40)}, Den: nat(40)},
	}
}

func long(n int) api.Rat  { return api.Rat{Num: whole.Of(1), Den: nat(n)} }
func great(n int) api.Rat { return api.Rat{Num: api.Int{Mag: nat(n)}, Den: "\x01"} }

// change is a change of parameters that may be, and what is told then.
type change struct {
	name string
	put  func(p *api.Params)
	want api.Errno
}

// changes are such that go to the edges of what may be, and beyond them.
func changes() []change {
	out := []change(nil)
	counts := func(name string, most int, field func(p *api.Params) *int) {
		for n, want := range map[int]api.Errno{0: api.OK, 1: api.OK, most - 1: api.OK, most: api.OK, -1: api.ErrArg, most + 1: api.ErrArg, math.MinInt: api.ErrArg, math.MaxInt: api.ErrArg} {
			out = append(out, change{name, func(p *api.Params) { *field(p) = n }, want})
		}
	}
	counts("Budget", 400, func(p *api.Params) *int { return &p.Budget })
	counts("Rounds", 20, func(p *api.Params) *int { return &p.Rounds })
	counts("Places", 100, func(p *api.Params) *int { return &p.Places })
	below := part(1, 1000000)
	numbers := func(name string, field func(p *api.Params) *api.Rat, good []api.Rat, bad []api.Rat) {
		for _, a := range good {
			out = append(out, change{name, func(p *api.Params) { *field(p) = a }, api.OK})
		}
		for _, a := range append(bad, append(wrongs(), long(51), great(51), long(8001), great(8001), long(40000))...) {
			out = append(out, change{name, func(p *api.Params) { *field(p) = a }, api.ErrArg})
		}
	}
	less := part(-1, 1000000)
	numbers("Tol2", func(p *api.Params) *api.Rat { return &p.Tol2 }, []api.Rat{rat.Of(0), below, long(50), great(50), rat.Of(9)}, []api.Rat{less, rat.Of(-1)})
	numbers("Theta", func(p *api.Params) *api.Rat { return &p.Theta }, []api.Rat{rat.Of(1), below, long(50), part(999999, 1000000)}, []api.Rat{rat.Of(0), less, part(1000001, 1000000), great(50), rat.Of(-1)})
	numbers("Floor2", func(p *api.Params) *api.Rat { return &p.Floor2 }, []api.Rat{rat.Of(1), below, long(50), great(50)}, []api.Rat{rat.Of(0), less, rat.Of(-1)})
	return out
}

func TestCheck(t *testing.T) {
	good := api.Params{Budget: 9, Rounds: 2, Tol2: part(1, 3), Theta: part(1, 2), Floor2: part(5, 7), Places: 3}
	if e := run.Check(good); e != api.OK {
		t.Errorf("P24.1: error %d", e)
	}
	if e := run.Check(api.Params{}); e != api.ErrArg {
		t.Errorf("P24.1: none: error %d", e)
	}
	for _, c := range changes() {
		p := good
		c.put(&p)
		if e := run.Check(p); e != c.want {
			t.Errorf("P24.1: %s: %v: error %d, not %d", c.name, p, e, c.want)
		}
	}
}

// TestWrongParams runs with parameters that may not be.
func TestWrongParams(t *testing.T) {
	for _, c := range changes() {
		p := params(4, 0)
		c.put(&p)
		r, e := run.Run(square("dddd", unit, none), p, nil)
		if (e == api.ErrArg) != (c.want == api.ErrArg) || e == api.ErrArg && !sameResult(r, api.Result{}) {
			t.Errorf("P24.3: %s: %v: %v, error %d, not %d", c.name, p, r, e, c.want)
		}
	}
}
