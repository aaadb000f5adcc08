package edge_test

import (
	"testing"

	"gusset/api"
	"gusset/edge"
)

func TestEdgesOfATriangle(t *testing.T) {
	tri := api.Tri{7, 3, 5}
	for k, want := range []struct {
		way    edge.Edge
		facing int
	}{{edge.Edge{7, 3}, 5}, {edge.Edge{3, 5}, 7}, {edge.Edge{5, 7}, 3}} {
		if way, facing := edge.Of(tri, k), edge.Facing(tri, k); way != want.way || facing != want.facing {
			t.Errorf("edge %d: %v, facing %d", k, way, facing)
		}
	}
	if e := (edge.Edge{7, 3}); e.Back() != (edge.Edge{3, 7}) || e.Plain() != (edge.Edge{3, 7}) || e.Back().Plain() != (edge.Edge{3, 7}) {
		t.Errorf("%v and %v", e.Back(), e.Plain())
	}
}

func TestSides(t *testing.T) {
	sides, once := edge.SidesOf([]api.Tri{{0, 1, 2}, {3, 0, 2}})
	if !once || len(sides) != 6 {
		t.Fatalf("%v, %v", sides, once)
	}
	for _, c := range []struct {
		e     edge.Edge
		side  edge.Side
		found bool
		has   bool
	}{
		{edge.Edge{2, 0}, edge.Side{Tri: 1, K: 1}, true, true}, {edge.Edge{0, 2}, edge.Side{Tri: 0, K: 2}, true, true},
		{edge.Edge{0, 1}, edge.Side{}, false, true}, {edge.Edge{1, 0}, edge.Side{}, true, true}, {edge.Edge{0, 3}, edge.Side{Tri: 1}, true, true},
		{edge.Edge{1, 3}, edge.Side{}, false, false}, {edge.Edge{-1, 9}, edge.Side{}, false, false}, {edge.Edge{1, 1}, edge.Side{}, false, false},
	} {
		if side, found := sides.Across(c.e); side != c.side || found != c.found || sides.Has(c.e) != c.has {
			t.Errorf("%v: %v, %v, %v", c.e, side, found, sides.Has(c.e))
		}
	}
	if sides, once := edge.SidesOf(nil); len(sides) != 0 || !once {
		t.Errorf("of none: %v, %v", sides, once)
	}
	for _, l := range [][]api.Tri{{{0, 1, 2}, {0, 1, 3}}, {{0, 1, 2}, {1, 2, 0}}, {{1, 1, 1}}} {
		if _, once := edge.SidesOf(l); once {
			t.Errorf("%v: an edge stands twice", l)
		}
	}
}
