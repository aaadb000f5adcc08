package run

import (
	"gusset/api"
	"gusset/carve"
	"gusset/cdt"
	"gusset/pslg"
	"gusset/well"
)

// ground is what a text is solved on: its plan, and the domain's first mesh.
type ground struct {
	text string
	plan api.Plan
	mesh api.Mesh
}

// lay makes plan and mesh of the text.
func (g *ground) lay() error {
	return inTurn(
		step{"the text", g.read},
		step{"the plan", func() api.Errno { return well.Check(g.plan) }},
		step{"the triangles", g.triangulate},
		step{"the domain", g.cut},
		step{"what is fixed", func() api.Errno { return carve.Ready(g.mesh) }},
	)
}

// read makes the plan.
func (g *ground) read() (e api.Errno) {
	g.plan, e = pslg.Parse(g.text)
	return e
}

// triangulate makes triangles of the plan. Where there are none, there is nothing to solve on.
func (g *ground) triangulate() (e api.Errno) {
	g.mesh, e = cdt.Build(g.plan.Points, g.plan.Segs)
	if e == api.ErrFlat {
		return api.ErrEmpty
	}
	return e
}

// cut leaves the domain of the triangles.
func (g *ground) cut() (e api.Errno) {
	g.mesh, e = carve.Cut(g.mesh, g.plan.Holes)
	return e
}
