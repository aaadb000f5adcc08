package run_test

import (
	"math/rand/v2"
	"testing"

	"gusset/adapt"
	"gusset/api"
	"gusset/estimate"
	"gusset/rat"
	"gusset/refine"
	"gusset/run"
)

// params are such that a run may have: so many points and rounds.
func params(budget, rounds int) api.Params {
	return api.Params{Budget: budget, Rounds: rounds, Tol2: rat.Of(0), Theta: part(1, 2), Floor2: part(1, 100)}
}

// hold holds an answer of Run of a text that has a domain, and of parameters and picks that may be, against the words. It tells whether there is a result.
func hold(t *testing.T, text string, p api.Params, picks []int) (api.Result, api.Errno) {
	t.Helper()
	plan, m, e := run.Domain(text)
	must(t, e)
	r, e := run.Run(text, p, picks)
	if e == api.ErrBudget || e == api.ErrLimit {
		if !sameResult(r, api.Result{}) {
			t.Fatalf("R3: beside the error %d: %v", e, r)
		}
		return r, e
	}
	must(t, e)
	if len(r.Mesh.Points) > p.Budget && !sameMesh(r.Mesh, m) {
		t.Fatalf("P24.3: %d points, but no more than %d", len(r.Mesh.Points), p.Budget)
	}
	holdShape(t, r.Mesh)
	holdCover(t, m, r.Mesh)
	holdParts(t, m, r.Mesh)
	holdValues(t, plan, r.Mesh, r.Values)
	if again, e := refine.Refine(r.Mesh, nil, nil, 0); !sameMesh(again, r.Mesh) || e != api.OK {
		t.Fatalf("P24.3: the mesh is not as refine leaves one: error %d", e)
	}
	if want := least(wantLeast2(plan), times(small(1, 2), bigOf(p.Floor2))); shortest(r.Mesh).Cmp(want) < 0 {
		t.Fatalf("P24.5: an edge has the length %v, squared, not %v", shortest(r.Mesh), want)
	}
	holdStatus(t, text, p, picks, r)
	return r, api.OK
}

// next are the sizes that a result asks for.
func next(t *testing.T, f api.Poly, p api.Params, r api.Result) []api.Size {
	t.Helper()
	l, _ := wrong(t, f, r)
	marked, e := adapt.Mark(l, p.Theta)
	must(t, e)
	sizes, e := adapt.Sizes(r.Mesh, marked, p.Floor2)
	if e != api.ErrLimit { // then there are none
		must(t, e)
	}
	return sizes
}

// wrong is what package estimate tells of a result's values, triangle by triangle and in all; or what chapter 21 says of them, if they are too long to be asked about.
func wrong(t *testing.T, f api.Poly, r api.Result) ([]api.Rat, api.Rat) {
	t.Helper()
	if longest(r.Values...) > 3000 {
		return wantEach(f, r.Mesh, r.Values)
	}
	l, e := estimate.Each(r.Mesh, r.Values, f)
	must(t, e)
	eta2, e := estimate.Total(r.Mesh, r.Values, f)
	must(t, e)
	return l, eta2
}

// holdStatus holds how it ended against what comes with fewer rounds: those are the meshes that it went through, and each asks for sizes that all later ones keep to.
func holdStatus(t *testing.T, text string, p api.Params, picks []int, r api.Result) {
	t.Helper()
	plan, _, e := run.Domain(text)
	must(t, e)
	if _, eta2 := wrong(t, plan.F, r); r.Eta2 != eta2 {
		t.Fatalf("P5: the estimate is %v, not %v", eta2, r.Eta2)
	}
	if r.Rounds < 0 || r.Rounds > p.Rounds {
		t.Fatalf("P24.3: %d rounds of %d", r.Rounds, p.Rounds)
	}
	sizes, fewer := []api.Size(nil), p
	for fewer.Rounds = 0; fewer.Rounds < r.Rounds; fewer.Rounds++ {
		s, e := run.Run(text, fewer, picks)
		if e != api.OK || s.Status != api.Rounds || s.Rounds != fewer.Rounds {
			t.Fatalf("P24.3: with %d rounds: status %d after %d, error %d", fewer.Rounds, s.Status, s.Rounds, e)
		}
		sizes = append(sizes, next(t, plan.F, p, s)...)
	}
	if bad, e := refine.Bad(r.Mesh, sizes); len(bad) > 0 || e != api.OK {
		t.Fatalf("P24.3: after %d rounds %v are bad, error %d", r.Rounds, bad, e)
	}
	want := api.Floor
	switch {
	case bigOf(r.Eta2).Cmp(bigOf(p.Tol2)) <= 0:
		want = api.Converged
	case r.Rounds == p.Rounds:
		want = api.Rounds
	}
	if r.Status != want {
		t.Fatalf("P24.3: status %d, not %d", r.Status, want)
	}
	if want != api.Floor {
		return
	}
	if more := next(t, plan.F, p, r); len(more) > 0 && len(sizes)+len(more) <= 100 {
		t.Fatalf("P24.3: it ends after %d rounds, with %d sizes, and %d more", r.Rounds, len(sizes), len(more))
	}
}

// picksOf are n picks of all kinds.
func picksOf(r *rand.Rand, n int) []int {
	out := []int(nil)
	for range n {
		out = append(out, int(r.Uint64())>>r.IntN(64))
	}
	return out
}

// TestPlans runs plans as they come, with parameters and picks as they come.
func TestPlans(t *testing.T) {
	r := random()
	ends, errors := map[int]int{}, map[api.Errno]int{}
	for i := range 150 {
		text := textOf(t, draft(r))
		if _, _, e := run.Domain(text); e != api.OK {
			continue
		}
		p := api.Params{Budget: 10 + r.IntN(60), Rounds: i % 4, Theta: part(1+r.IntN(9), 9), Tol2: rat.Of(r.IntN(2) * r.IntN(20000000)), Floor2: part(1+r.IntN(200), 8)}
		result, e := hold(t, text, p, picksOf(r, i%4*30))
		errors[e]++
		ends[result.Status]++
	}
	if errors[api.OK] < 40 || errors[api.ErrBudget] < 5 || errors[api.ErrLimit] > 0 || min(ends[api.Converged], ends[api.Rounds], ends[api.Floor]) < 5 {
		t.Errorf("errors %v, ends %v", errors, ends)
	}
}

// TestDrawnPlans runs plans whose numbers are longer.
func TestDrawnPlans(t *testing.T) {
	r := random()
	errors := map[api.Errno]int{}
	for i := range 24 {
		text := textOf(t, drawn(r, draft(r), 1+i/4))
		if _, _, e := run.Domain(text); e != api.OK {
			continue
		}
		p := params(60, i%2)
		p.Floor2 = part(1, 10)
		_, e := hold(t, text, p, picksOf(r, i))
		errors[e]++
	}
	if errors[api.OK] < 8 || errors[api.ErrLimit] > 0 {
		t.Errorf("errors %v", errors)
	}
}
