package run_test

import (
	"math/big"
	"math/rand/v2"
	"slices"
	"strconv"
	"strings"
	"testing"

	"gusset/api"
	"gusset/carve"
	"gusset/cdt"
	"gusset/pslg"
	"gusset/rat"
	"gusset/well"
)

func random() *rand.Rand { return rand.New(rand.NewPCG(241, 242)) }

// polyOf is a polynomial of small numbers.
func polyOf(l ...int) api.Poly {
	out := api.Poly{}
	for i := range out {
		out[i] = rat.Of(0)
		if i < len(l) {
			out[i] = rat.Of(l[i])
		}
	}
	return out
}

// anyPoly is a polynomial of small quotients, some of them 0.
func anyPoly(r *rand.Rand) api.Poly {
	out := api.Poly{}
	for i := range out {
		out[i] = part(r.IntN(7)*r.IntN(2)-r.IntN(4)*r.IntN(2), 1+r.IntN(3))
	}
	return out
}

// frame is a closed way that a plan may have round it, and about how wide and how high it is.
func frame(r *rand.Rand) ([]api.Point, int, int) {
	w, h := 8+r.IntN(12), 8+r.IntN(12)
	switch r.IntN(4) {
	case 0:
		return []api.Point{at(0, 0), at(w, 0), at(w, h/2), at(w/2, h/2), at(w/2, h), at(0, h)}, w, h
	case 1:
		return []api.Point{at(0, 3), at(w/2, 0), at(w, 2), at(w+2, h), at(w/2, h+3), at(-2, h)}, w, h
	}
	return []api.Point{at(0, 0), at(w, 0), at(w, h), at(0, h)}, w, h
}

// ring is a square about a point.
func ring(x, y, size int) []api.Point {
	return []api.Point{at(x-size, y-size), at(x+size, y-size), at(x+size, y+size), at(x-size, y+size)}
}

// closed is a plan with a closed way more, if it holds with it.
func closed(r *rand.Rand, p api.Plan, way []api.Point) api.Plan {
	next, n := p, len(p.Points)
	next.Points = append(slices.Clone(p.Points), way...)
	next.Segs = slices.Clone(p.Segs)
	for i := range way {
		next.Segs = append(next.Segs, api.Seg{A: n + i, B: n + (i+1)%len(way), Fixed: r.IntN(2) == 0})
	}
	if well.Check(next) != api.OK {
		return p
	}
	return next
}

// draft is a plan that holds, of what can be put in one by one beside a frame: rings, points, segments and holes, some of them outside.
func draft(r *rand.Rand) api.Plan {
	way, w, h := frame(r)
	p := closed(r, api.Plan{F: anyPoly(r), G: anyPoly(r)}, way)
	for range r.IntN(3) {
		p = closed(r, p, ring(r.IntN(w+9), r.IntN(h+9), 1+r.IntN(4)))
	}
	for range r.IntN(6) {
		next := p
		next.Points = append(slices.Clone(p.Points), at(r.IntN(w+4)-2, r.IntN(h+4)-2))
		if well.Check(next) == api.OK {
			p = next
		}
	}
	for range r.IntN(12) {
		next := p
		next.Segs = append(slices.Clone(p.Segs), api.Seg{A: r.IntN(len(p.Points)), B: r.IntN(len(p.Points)), Fixed: r.IntN(3) == 0})
		if well.Check(next) == api.OK {
			p = next
		}
	}
	for range r.IntN(3) {
		next := p
		next.Holes = append(slices.Clone(p.Holes), at(r.IntN(w+4)-2, r.IntN(h+4)-2))
		if well.Check(next) == api.OK {
			p = next
		}
	}
	return p
}

// textOf is a plan's text.
func textOf(t *testing.T, p api.Plan) string {
	t.Helper()
	text, e := pslg.Print(p)
	must(t, e)
	return text
}

// wantDomain asks the layers below, one behind the other.
func wantDomain(text string) (api.Plan, api.Mesh, api.Errno) {
	p, e := pslg.Parse(text)
	if e != api.OK {
		return api.Plan{}, api.Mesh{}, e
	}
	if e := well.Check(p); e != api.OK {
		return api.Plan{}, api.Mesh{}, e
	}
	m, e := cdt.Build(p.Points, p.Segs)
	if e == api.ErrFlat {
		return api.Plan{}, api.Mesh{}, api.ErrEmpty
	}
	if e == api.OK {
		m, e = carve.Cut(m, p.Holes)
	}
	if e == api.OK {
		e = carve.Ready(m)
	}
	if e != api.OK {
		return api.Plan{}, api.Mesh{}, e
	}
	return p, m, api.OK
}

// square is the text of one of side 2; its sides are of these kinds.
func square(kinds string, f string, g string) string {
	sides := []string{"0 1", "1 2", "2 3", "3 0"}
	for i := range sides {
		sides[i] += " " + kinds[i:i+1]
	}
	return "pslg v 4 0 0 2 0 2 2 0 2 s 4 " + strings.Join(sides, " ") + " h 0 f " + f + " g " + g + " end"
}

// Two loads: 1 and 0.
const (
	unit = "1 0 0 0 0 0"
	none = "0 0 0 0 0 0"
)

// strip is the text of a rectangle that is so long, and 1 high, all of whose sides are Fixed.
func strip(long int) string {
	n := strconv.Itoa(long)
	return "pslg v 4 0 0 " + n + " 0 " + n + " 1 0 1 s 4 0 1 d 1 2 d 2 3 d 3 0 d h 0 f " + unit + " g " + none + " end"
}

// drawn is a plan that is turned, drawn larger or smaller, and moved, by numbers of so many digits.
func drawn(r *rand.Rand, p api.Plan, digits int) api.Plan {
	number := func() *big.Rat {
		over, under := strconv.Itoa(1+r.IntN(9)), strconv.Itoa(1+r.IntN(9))
		for range digits - 1 {
			over += strconv.Itoa(r.IntN(10))
			under += strconv.Itoa(r.IntN(10))
		}
		x, _ := new(big.Rat).SetString(over + "/" + under)
		return x
	}
	c, d, moveX, moveY := number(), number(), number(), number()
	draw := func(l []api.Point) []api.Point {
		out := []api.Point(nil)
		for _, p := range places(l) {
			out = append(out, api.Point{X: ratOf(plus(minus(times(c, p.x), times(d, p.y)), moveX)), Y: ratOf(plus(plus(times(d, p.x), times(c, p.y)), moveY))})
		}
		return out
	}
	p.Points, p.Holes = draw(p.Points), draw(p.Holes)
	return p
}
