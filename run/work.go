package run

import (
	"gusset/adapt"
	"gusset/api"
	"gusset/ldl"
	"gusset/rat"
	"gusset/refine"
	"gusset/surface"
	"gusset/system"
)

// maxSizes is how many sizes refine.Refine takes.
const maxSizes = 100

// work is a run: what it was given, and how far it has come. As long as its result has no status, it goes on.
type work struct {
	ground
	params    api.Params
	picks     []int
	sizes     []api.Size // of all rounds
	equations api.System
	result    api.Result
}

// goOn goes from the text to the result.
func (w *work) goOn() error {
	if err := w.lay(); err != nil {
		return err
	}
	err := inTurn(
		step{"the parameters", func() api.Errno { return Check(w.params) }},
		step{"the picks", w.count},
	)
	for err == nil && w.result.Status == 0 {
		err = inTurn(
			step{"the mesh", w.refine},
			step{"the equations", w.build},
			step{"the values", w.solve},
			step{"the estimate", w.judge},
			step{"the next sizes", w.ask},
		)
	}
	return err
}

// count tells whether there are too many picks.
func (w *work) count() api.Errno {
	if len(w.picks) > api.MaxPicks {
		return api.ErrLimit
	}
	return api.OK
}

// refine makes the mesh. It begins with the domain's one each time, and takes the sizes of all rounds: what chapter 16 says of the length of edges, it says of that one, and not of one that was refined already.
func (w *work) refine() (e api.Errno) {
	w.result.Mesh, e = refine.Refine(w.mesh, w.sizes, w.picks, w.params.Budget)
	return e
}

// build makes the equations of the mesh.
func (w *work) build() (e api.Errno) {
	w.equations, e = system.Build(w.result.Mesh, w.plan.F, w.plan.G)
	return e
}

// solve finds the values at the mesh's points.
func (w *work) solve() (e api.Errno) {
	w.result.Values, e = ldl.Solve(w.equations)
	return e
}

// judge tells how wrong the values may be. It ends, if that is little enough, or no round is left. Package surface is asked in place of estimate, which tells the same, but refuses values of more than 3000 bytes: a run may give up only where a number has more than 8000.
func (w *work) judge() api.Errno {
	eta2, e := surface.Total(w.result.Mesh, w.result.Values, w.plan.F)
	if e != api.OK {
		return e
	}
	order, e := rat.Cmp(eta2, w.params.Tol2)
	if e != api.OK {
		return e
	}
	w.result.Eta2 = eta2
	switch {
	case order <= 0:
		w.result.Status = api.Converged
	case w.result.Rounds == w.params.Rounds:
		w.result.Status = api.Rounds
	}
	return api.OK
}

// ask adds the sizes for one more round, unless it has ended. It ends, if there are none, or there would be too many. Where package adapt has an error, there are none: here it comes only of triangles that are too great or too small for it, not of numbers on the way that are too long.
func (w *work) ask() api.Errno {
	if w.result.Status != 0 {
		return api.OK
	}
	shares, e := surface.Each(w.result.Mesh, w.result.Values, w.plan.F)
	if e != api.OK {
		return e
	}
	marked, e := adapt.Mark(shares, w.params.Theta)
	if e != api.OK {
		return e
	}
	more, _ := adapt.Sizes(w.result.Mesh, marked, w.params.Floor2)
	if len(more) == 0 || len(w.sizes)+len(more) > maxSizes {
		w.result.Status = api.Floor
		return api.OK
	}
	w.sizes = append(w.sizes, more...)
	w.result.Rounds++
	return api.OK
}
