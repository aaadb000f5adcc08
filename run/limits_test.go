package run_test

import (
	"math/big"
	"math/rand/v2"
	"strconv"
	"strings"
	"testing"

	"gusset/adapt"
	"gusset/api"
	"gusset/estimate"
	"gusset/rat"
	"gusset/run"
)

// What layers below refuse is no ErrLimit of a run, unless a number on the way has more than 8000 bytes: none has here.

// tiny is a floor that is below all circles here.
func tiny() api.Rat {
	return api.Rat{Num: api.Int{Mag: "\x01"}, Den: api.Nat("\x80" + strings.Repeat("\x00", 49))} // 2^-399
}

// sized is the text of a square with this side, all of whose sides are Fixed.
func sized(side string) string {
	return strings.Replace(square("dddd", unit, none), "v 4 0 0 2 0 2 2 0 2", "v 4 0 0 "+side+" 0 "+side+" "+side+" 0 "+side, 1)
}

// power2 is the text of 2^k.
func power2(k uint) string { return new(big.Int).Lsh(big.NewInt(1), k).String() }

// TestNoSize runs squares at whose triangles adapt.Sizes is at its limit, or beyond it: there it tells no size, so that there is nothing more to be refined.
func TestNoSize(t *testing.T) {
	far, near := strings.Repeat("0", 58), strings.Repeat("0", 57)
	for _, c := range []struct {
		side   string
		status int
	}{
		{power2(190), api.Rounds}, {power2(191), api.Floor}, {power2(197), api.Floor}, {"2" + near, api.Rounds}, {"2" + far, api.Floor}, {"2" + far + "0", api.Floor},
		{"1/" + power2(190), api.Rounds}, {"1/" + power2(191), api.Floor}, {"1/" + power2(197), api.Floor}, {"1/2" + far, api.Floor}, {"1/2" + far + "0", api.Floor},
	} {
		for _, tol2 := range []api.Rat{rat.Of(0), great(50)} {
			p := api.Params{Budget: 60, Rounds: 1, Tol2: tol2, Theta: rat.Of(1), Floor2: tiny()}
			r, e := hold(t, sized(c.side), p, nil)
			must(t, e)
			want := c.status
			if bigOf(r.Eta2).Cmp(bigOf(tol2)) <= 0 {
				want = api.Converged
			}
			if refined := r.Rounds == 1; r.Status != want || refined != (want == api.Rounds) || !refined && len(r.Mesh.Points) != 4 || r.Eta2 == rat.Of(0) {
				t.Errorf("P24.3: side %s: status %d, not %d, after %d rounds, %d points, estimate %v", c.side, r.Status, want, r.Rounds, len(r.Mesh.Points), r.Eta2)
			}
			p.Rounds = 0
			if r, e := hold(t, sized(c.side), p, nil); r.Status == api.Floor || e != api.OK {
				t.Errorf("P24.3: side %s, no round: status %d, error %d", c.side, r.Status, e)
			}
		}
	}
}

// TestNoSizeLater runs a square whose triangles are beyond that limit after one round: it ends there, with what that round made.
func TestNoSizeLater(t *testing.T) {
	p := api.Params{Budget: 60, Rounds: 5, Tol2: rat.Of(0), Theta: rat.Of(1), Floor2: tiny()}
	r, e := hold(t, sized("1/"+power2(190)), p, []int{3, 1, 2})
	if r.Status != api.Floor || r.Rounds != 1 || len(r.Mesh.Points) <= 4 || e != api.OK {
		t.Errorf("P24.3: status %d after %d rounds, %d points, error %d", r.Status, r.Rounds, len(r.Mesh.Points), e)
	}
}

// TestNoSizeOfOne runs two squares, of which only the small one is beyond that limit: if it is marked, there is no size of the other one, either, unless it is not above the floor.
func TestNoSizeOfOne(t *testing.T) {
	under := "/2" + strings.Repeat("0", 58)
	a, b := "5", "1"+strings.Repeat("0", 58)+"1"+under // just above 5
	text := "pslg v 8 0 0 2 0 2 2 0 2 " + strings.Join([]string{a, a, b, a, b, b, a, b}, " ") +
		" s 8 0 1 d 1 2 d 2 3 d 3 0 d 4 5 d 5 6 d 6 7 d 7 4 d h 0 f " + unit + " g " + none + " end"
	for _, c := range []struct {
		theta, floor2 api.Rat
		status        int
	}{{rat.Of(1), tiny(), api.Floor}, {rat.Of(1), part(1, 100), api.Rounds}, {part(1, 2), tiny(), api.Rounds}} {
		p := api.Params{Budget: 60, Rounds: 1, Tol2: rat.Of(0), Theta: c.theta, Floor2: c.floor2}
		r, e := hold(t, text, p, nil)
		if r.Status != c.status || (r.Rounds == 0) != (c.status == api.Floor) || e != api.OK {
			t.Errorf("P24.3: theta %v: status %d, not %d, after %d rounds, error %d", c.theta, r.Status, c.status, r.Rounds, e)
		}
	}
	_, m, e := run.Domain(text)
	must(t, e)
	if l, e := adapt.Sizes(m, []int{0, 1, 2, 3}, tiny()); len(l) != 0 || e != api.ErrLimit {
		t.Errorf("P22.2: %d sizes, error %d", len(l), e)
	}
}

// scattered is the text of a plan of n by n points, whose coordinates are quotients of so many digits, with a closed way round it.
func scattered(t *testing.T, r *rand.Rand, n int, digits int) string {
	number := func(near int) api.Rat {
		over, under := "1", "2"
		for range digits {
			over, under = over+strconv.Itoa(r.IntN(10)), under+strconv.Itoa(r.IntN(10))
		}
		x, _ := new(big.Rat).SetString(over + "/" + under)
		return ratOf(plus(x, small(near+r.IntN(4), 1)))
	}
	p := api.Plan{F: polyOf(1, 0, 0, 0, 0, 1), G: polyOf()}
	for i := range n * n {
		p.Points = append(p.Points, api.Point{X: number(20 * (i % n)), Y: number(20 * (i / n))})
	}
	for i := range n - 1 {
		down := i * n
		p.Segs = append(p.Segs, api.Seg{A: i, B: i + 1, Fixed: i == 0}, api.Seg{A: n*n - 1 - i, B: n*n - 2 - i}, api.Seg{A: down, B: down + n}, api.Seg{A: down + n - 1, B: down + 2*n - 1})
	}
	return textOf(t, p)
}

// TestLongValues runs a plan whose values are longer than package estimate takes, to each of its ends.
func TestLongValues(t *testing.T) {
	text := scattered(t, random(), 4, 38)
	p := api.Params{Budget: 40, Rounds: 1, Tol2: rat.Of(0), Theta: part(1, 2), Floor2: great(50)}
	first, e := hold(t, text, p, nil)
	if n := longest(first.Values...); first.Status != api.Floor || e != api.OK || n <= 3000 || longest(first.Eta2) <= 2*3000 {
		t.Errorf("P24.3: status %d, values of %d bytes, error %d", first.Status, n, e)
	}
	plan, _, e := run.Domain(text)
	must(t, e)
	if _, e := estimate.Total(first.Mesh, first.Values, plan.F); e != api.ErrLimit {
		t.Errorf("P21.1: error %d", e)
	}
	for _, c := range []struct {
		rounds int
		tol2   api.Rat
		status int
	}{{0, rat.Of(0), api.Rounds}, {0, great(50), api.Converged}, {1, great(50), api.Converged}} {
		p.Rounds, p.Tol2 = c.rounds, c.tol2
		want := first
		want.Status = c.status
		if r, e := run.Run(text, p, nil); !sameResult(r, want) || e != api.OK {
			t.Errorf("P24.3: status %d, not %d, error %d", r.Status, c.status, e)
		}
	}
}
