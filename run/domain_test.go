package run_test

import (
	"math/big"
	"slices"
	"strings"
	"testing"

	"gusset/api"
	"gusset/cdt"
	"gusset/mesh"
	"gusset/pslg"
	"gusset/run"
)

func samePlan(p, q api.Plan) bool {
	return slices.Equal(p.Points, q.Points) && slices.Equal(p.Segs, q.Segs) && slices.Equal(p.Holes, q.Holes) && p.F == q.F && p.G == q.G
}

// holdDomain holds what is told of a text against what the layers below tell, and tells the error.
func holdDomain(t *testing.T, text string) (api.Plan, api.Mesh, api.Errno) {
	t.Helper()
	want, wantMesh, kind := wantDomain(text)
	p, m, e := run.Domain(text)
	if !samePlan(p, want) || e != kind {
		t.Fatalf("P24.2: %.300q: error %d, not %d; %v", text, e, kind, p)
	}
	if !slices.Equal(m.Points, wantMesh.Points) || !slices.Equal(m.Segs, wantMesh.Segs) || all(m).Cmp(all(wantMesh)) != 0 {
		t.Fatalf("P24.2: %.300q: %v, not %v", text, m, wantMesh)
	}
	if r, other := run.Run(text, params(0, 0), nil); e != api.OK && (other != e || !sameResult(r, api.Result{})) {
		t.Fatalf("P24.3: %.300q: error %d, not %d", text, other, e)
	}
	if e == api.OK {
		must(t, mesh.Check(m))
		if legal, e := cdt.Legal(m); !legal || e != api.OK {
			t.Fatalf("P24.2: %.300q: legal: %v, error %d", text, legal, e)
		}
	}
	return p, m, e
}

// holdGround holds that a mesh covers just what the plan's segments and holes leave; that its triangles lie apart; that each point of the plan in it is a corner, and each segment in it an edge.
func holdGround(t *testing.T, p api.Plan, m api.Mesh) {
	t.Helper()
	l, third, r := places(m.Points), thirds(m), regionsOf(p)
	for i, tri := range m.Tris {
		for _, other := range m.Tris[:i] {
			if !apart(l, tri, other) {
				t.Fatalf("P1: the triangles %v, %v lie on one another", tri, other)
			}
		}
	}
	onSegment := func(q place) bool {
		return slices.ContainsFunc(p.Segs, func(s api.Seg) bool { return on(placeOf(p.Points[s.A]), placeOf(p.Points[s.B]), q) })
	}
	for i := range 300 {
		q := place{small(i%20*10-13, 7), small(i/20*13-12, 7)}
		if !onSegment(q) && covers(l, m.Tris, q) != r.wantIn(p, q) {
			t.Fatalf("P1: (%v, %v) lies in the domain: %v: of %v", q.x, q.y, r.wantIn(p, q), p)
		}
	}
	for _, q := range p.Points {
		if !slices.Contains(m.Points, q) && covers(l, m.Tris, placeOf(q)) {
			t.Fatalf("P1: the point %v is no corner", q)
		}
	}
	for _, s := range p.Segs {
		a, b := slices.Index(m.Points, p.Points[s.A]), slices.Index(m.Points, p.Points[s.B])
		_, ahead := third[edge{a, b}]
		_, back := third[edge{b, a}]
		if covers(l, m.Tris, middle(placeOf(p.Points[s.A]), placeOf(p.Points[s.B]))) && !ahead && !back {
			t.Fatalf("P1: the segment %v is no edge", s)
		}
	}
}

// TestDomains tells the domains of plans as they come, and that there is none of others.
func TestDomains(t *testing.T) {
	r := random()
	seen := map[api.Errno]int{}
	for range 300 {
		p := draft(r)
		text := textOf(t, p)
		q, m, e := holdDomain(t, text)
		seen[e]++
		switch e {
		case api.OK:
			if !samePlan(p, q) {
				t.Fatalf("P24.2: %v, not %v", q, p)
			}
			holdGround(t, p, m)
		case api.ErrEmpty:
			holdGround(t, p, api.Mesh{})
		}
	}
	if seen[api.OK] < 50 || seen[api.ErrEmpty] < 20 || seen[api.ErrFree] < 5 {
		t.Errorf("errors %v", seen)
	}
}

// TestDomainExamples tells domains of plans that are like a square of side 2.
func TestDomainExamples(t *testing.T) {
	text := square("dddd", unit, none)
	if _, m, e := holdDomain(t, text); e != api.OK || len(m.Tris) != 2 || len(m.Segs) != 4 {
		t.Errorf("P24.2: %v, error %d", m, e)
	}
	points := "v 4 0 0 2 0 2 2 0 2"
	sides := "s 4 0 1 d 1 2 d 2 3 d 3 0 d"
	for i, c := range []struct {
		old, with string
		e         api.Errno
	}{
		{"0 1 d", "0 1", api.ErrSyntax}, {"0 1 d", "0 1 1/0 d", api.ErrSyntax}, {"2 2 0 2", "2 1/0 0 2", api.ErrSyntax}, {"end", "", api.ErrSyntax},
		{"end", "end" + strings.Repeat(" ", 20000), api.ErrLimit}, {"pslg", strings.Repeat("x", 20001), api.ErrLimit},
		{"0 1 d", "0 0 d", api.ErrArg}, {"0 1 d", "0 4 d", api.ErrSyntax},
		{points, "v 4 0 0 2 0 2 2 0 0", api.ErrTwice}, {points, "v 5 0 0 2 0 2 2 0 2 4/2 0", api.ErrTwice},
		{"s 4", "s 5 0 2 n", api.ErrAngle}, {"s 4", "s 6 0 2 n 1 3 n", api.ErrCross}, {"3 0 d", "0 1 d", api.ErrCross}, {points, "v 5 0 0 2 0 2 2 0 2 1 0", api.ErrCross},
		{"h 0", "h 1 1 0", api.ErrHole}, {"h 0", "h 1 0 0", api.ErrHole}, {"h 0", "h 2 1 1 2 1", api.ErrHole},
		{"h 0", "h 1 1 1", api.ErrEmpty}, {"h 0", "h 1 3 1", api.OK}, {"h 0", "h 3 3 1 9 9 1/2 1/3", api.ErrEmpty},
		{sides, "s 0", api.ErrEmpty}, {sides, "s 3 0 1 d 1 2 d 2 3 d", api.ErrEmpty}, {points + " " + sides, "v 0 s 0", api.ErrEmpty},
		{points + " " + sides, "v 1 0 0 s 0", api.ErrEmpty}, {points + " " + sides, "v 2 0 0 1 0 s 1 0 1 d", api.ErrEmpty}, {points + " " + sides, "v 3 0 0 1 1 2 2 s 1 0 1 d", api.ErrEmpty},
		{points + " " + sides, "v 3 0 0 1 1 2 2 s 2 0 1 d 1 2 n", api.ErrEmpty}, {points + " " + sides, "v 3 0 0 1 1 1 2 s 0", api.ErrEmpty},
		{sides, "s 4 0 1 n 1 2 n 2 3 n 3 0 n", api.ErrFree}, {sides, "s 4 0 1 n 1 2 n 2 3 d 3 0 n", api.OK}, {sides, "s 4 0 1 n 1 2 n 2 3 n 3 0 d", api.OK},
		{points, "v 5 0 0 2 0 2 2 0 2 1 1", api.OK}, {points, "v 5 0 0 2 0 2 2 0 2 9 9", api.OK},
	} {
		if _, _, e := holdDomain(t, strings.Replace(text, c.old, c.with, 1)); e != c.e {
			t.Errorf("P24.2: case %d: %q for %q: error %d", i, c.with, c.old, e)
		}
	}
}

// TestParts tells domains of two squares: apart, with an edge or a corner in common, one within the other; and holds that something is fixed in each part.
func TestParts(t *testing.T) {
	tail := " h 0 f " + unit + " g " + none + " end"
	for i, c := range []struct {
		text string
		area int64
		e    api.Errno
	}{
		{"pslg v 8 0 0 2 0 2 2 0 2 5 0 7 0 7 2 5 2 s 8 0 1 d 1 2 n 2 3 n 3 0 n 4 5 n 5 6 n 6 7 n 7 4 d" + tail, 8, api.OK},
		{"pslg v 8 0 0 2 0 2 2 0 2 5 0 7 0 7 2 5 2 s 8 0 1 d 1 2 n 2 3 n 3 0 n 4 5 n 5 6 n 6 7 n 7 4 n" + tail, 0, api.ErrFree},
		{"pslg v 6 0 0 2 0 2 2 0 2 4 0 4 2 s 7 0 1 n 1 2 n 2 3 n 3 0 d 1 4 n 4 5 n 5 2 n" + tail, 8, api.OK},
		{"pslg v 6 0 0 2 0 2 2 0 2 4 0 4 2 s 7 0 1 n 1 2 d 2 3 n 3 0 n 1 4 n 4 5 n 5 2 n" + tail, 8, api.OK},
		{"pslg v 7 0 0 2 0 2 2 0 2 4 2 4 4 2 4 s 8 0 1 n 1 2 n 2 3 n 3 0 d 2 4 n 4 5 n 5 6 n 6 2 n" + tail, 0, api.ErrFree},
		{"pslg v 7 0 0 2 0 2 2 0 2 4 2 4 4 2 4 s 8 0 1 n 1 2 n 2 3 n 3 0 d 2 4 d 4 5 n 5 6 n 6 2 n" + tail, 8, api.OK},
		{"pslg v 8 0 0 6 0 6 6 0 6 2 2 4 2 4 4 2 4 s 8 0 1 n 1 2 n 2 3 n 3 0 n 4 5 n 5 6 n 6 7 d 7 4 n" + tail, 36, api.OK},
		{"pslg v 8 0 0 6 0 6 6 0 6 2 2 4 2 4 4 2 4 s 8 0 1 n 1 2 n 2 3 n 3 0 n 4 5 n 5 6 n 6 7 d 7 4 n" + strings.Replace(tail, "h 0", "h 1 3 3", 1), 32, api.OK},
		{"pslg v 8 0 0 6 0 6 6 0 6 2 2 4 2 4 4 2 4 s 8 0 1 n 1 2 n 2 3 n 3 0 d 4 5 n 5 6 n 6 7 n 7 4 n" + strings.Replace(tail, "h 0", "h 1 1 3", 1), 0, api.ErrFree},
		{"pslg v 8 0 0 6 0 6 6 0 6 2 2 4 2 4 4 2 4 s 8 0 1 n 1 2 n 2 3 n 3 0 d 4 5 n 5 6 n 6 7 d 7 4 n" + strings.Replace(tail, "h 0", "h 1 1 3", 1), 4, api.OK},
		{"pslg v 8 0 0 6 0 6 6 0 6 2 2 4 2 4 4 2 4 s 8 0 1 n 1 2 n 2 3 n 3 0 d 4 5 n 5 6 n 6 7 d 7 4 n" + strings.Replace(tail, "h 0", "h 2 1 3 3 3", 1), 0, api.ErrEmpty},
	} {
		p, m, e := holdDomain(t, c.text)
		if e != c.e || all(m).Cmp(big.NewRat(2*c.area, 1)) != 0 {
			t.Errorf("P24.2: case %d: area %v, error %d", i, all(m), e)
		}
		if e == api.OK {
			holdGround(t, p, m)
		}
	}
}

// TestAnyBytes asks about texts with a byte changed, and about all sorts of bytes.
func TestAnyBytes(t *testing.T) {
	text := square("dndd", unit, none)
	for i := range text {
		for _, c := range []string{"", " ", "0", "9", "/", "-", "n", "\x00", "\xff"} {
			holdDomain(t, text[:i]+c+text[i+1:])
		}
		holdDomain(t, text[:i])
	}
	r := random()
	for range 200 {
		bytes := make([]byte, r.IntN(60))
		for i := range bytes {
			bytes[i] = byte(r.Uint32())
		}
		holdDomain(t, string(bytes))
	}
}

// TestGreatPlans asks about as many points, segments and holes as there may be, and one more.
func TestGreatPlans(t *testing.T) {
	p := api.Plan{F: polyOf(1), G: polyOf()}
	for i := range 40 {
		p.Points = append(p.Points, at(i%8, i/8))
	}
	for i := range 40 {
		for _, k := range []int{i + 1, i + 8} {
			if k < 40 && (k == i+8 || k%8 > 0) && len(p.Segs) < 60 {
				p.Segs = append(p.Segs, api.Seg{A: i, B: k, Fixed: true})
			}
		}
	}
	for i := range 10 {
		p.Holes = append(p.Holes, api.Point{X: part(2*i+1, 2), Y: part(1, 2)})
	}
	text := textOf(t, p)
	q, m, e := holdDomain(t, text)
	if !samePlan(p, q) || e != api.OK || len(m.Tris) == 0 {
		t.Errorf("P24.2: error %d, %v", e, m)
	}
	for _, change := range [][2]string{{"v 40", "v 41 99 99"}, {"s 60", "s 61 0 1 d"}, {"h 10", "h 11 99 99"}} {
		if _, _, e := holdDomain(t, strings.Replace(text, change[0], change[1], 1)); e != api.ErrSyntax {
			t.Errorf("P24.2: %s: error %d", change[1], e)
		}
	}
}

// TestDomainMemory holds that what is told is memory of its own, and the same again.
func TestDomainMemory(t *testing.T) {
	text := strings.Replace(square("dnnd", unit, none), "h 0", "h 1 5 5", 1)
	want, _ := pslg.Parse(text)
	_, first, _ := run.Domain(text)
	kept := api.Mesh{Points: slices.Clone(first.Points), Tris: slices.Clone(first.Tris), Segs: slices.Clone(first.Segs)}
	for range 3 {
		p, m, e := run.Domain(text)
		if !samePlan(p, want) || !sameMesh(m, kept) || e != api.OK {
			t.Fatalf("R6: asked again: %v, %v, error %d", p, m, e)
		}
		clear(p.Points[:cap(p.Points)])
		clear(p.Segs[:cap(p.Segs)])
		clear(p.Holes[:cap(p.Holes)])
		if !sameMesh(m, kept) {
			t.Fatal("R5: plan and mesh share memory")
		}
		clear(m.Points[:cap(m.Points)])
		clear(m.Tris[:cap(m.Tris)])
		clear(m.Segs[:cap(m.Segs)])
	}
}
