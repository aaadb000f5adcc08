package emit_test

import (
	"math/big"
	"slices"
	"strings"
	"testing"

	"gusset/api"
	"gusset/emit"
	"gusset/mesh"
	"gusset/rat"
)

// hold holds the files of a mesh and values that may be against the words, and reads the exact one back.
func hold(t *testing.T, m api.Mesh, u []api.Rat, places int) {
	t.Helper()
	must(t, mesh.Check(m))
	text, e := emit.Exact(m, u)
	if want := wantExact(m, u); text != want || e != api.OK {
		t.Fatalf("P23.1: %.300q, error %d, not %.300q", text, e, want)
	}
	if n, v, e := emit.Read(text); !sameMesh(n, m) || !slices.Equal(v, u) || e != api.OK {
		t.Fatalf("P23.4: read back: %d points, %d values, error %d, of %.300q", len(n.Points), len(v), e, text)
	}
	look, e := emit.Vtk(m, u, places)
	if want := wantVtk(m, u, places); look != want || e != api.OK {
		t.Fatalf("P23.3: %.300q, error %d, not %.300q", look, e, want)
	}
}

func TestExamples(t *testing.T) {
	if text, e := emit.Exact(api.Mesh{}, nil); text != "mesh\nv 0\nt 0\ns 0\nend\n" || e != api.OK {
		t.Errorf("P23.1: no mesh: %q, error %d", text, e)
	}
	m, u := triangle()
	if text, e := emit.Exact(m, u); text != "mesh\nv 3\n0 0 0\n2 0 -1/2\n0 7/3 5\nt 1\n0 1 2\ns 2\n1 0 d\n2 0 n\nend\n" || e != api.OK {
		t.Errorf("P23.1: a triangle: %q, error %d", text, e)
	}
	if look, e := emit.Vtk(api.Mesh{}, nil, 7); look != "# vtk DataFile Version 3.0\ngusset\nASCII\nDATASET UNSTRUCTURED_GRID\nPOINTS 0 double\nCELLS 0 0\nCELL_TYPES 0\nPOINT_DATA 0\nSCALARS u double 1\nLOOKUP_TABLE default\n" || e != api.OK {
		t.Errorf("P23.3: no mesh: %q, error %d", look, e)
	}
	if look, e := emit.Vtk(m, u, 0); !strings.HasSuffix(look, "POINTS 3 double\n0 0 0\n2 0 0\n0 2 0\nCELLS 1 4\n3 0 1 2\nCELL_TYPES 1\n5\nPOINT_DATA 3\nSCALARS u double 1\nLOOKUP_TABLE default\n0\n0\n5\n") || e != api.OK {
		t.Errorf("P23.3: a triangle: %q, error %d", look, e)
	}
	for _, places := range []int{0, 1, 2, 50, 99, 100} {
		hold(t, api.Mesh{}, nil, places)
		hold(t, m, u, places)
	}
}

// TestNets tells meshes with values of many lengths, with many places and few.
func TestNets(t *testing.T) {
	r := random()
	for i := range 60 {
		m := grid(r, 1+i%6, i%4 == 0, 1+i%30)
		hold(t, m, values(r, len(m.Points), 1+i*i/20), i*7%101)
	}
}

// TestPointsAlone tells points without triangles: they may be anywhere, with numbers of 100 bytes.
func TestPointsAlone(t *testing.T) {
	r := random()
	for i := range 20 {
		m := api.Mesh{}
		for range 1 + i {
			m.Points = append(m.Points, api.Point{X: fraction(r, 100), Y: fraction(r, 1+r.IntN(100))})
		}
		hold(t, m, values(r, len(m.Points), 1+i), i*5)
	}
}

// TestGreatest tells as many points, triangles and segments as there may be, and values that are as long as they may be.
func TestGreatest(t *testing.T) {
	r := random()
	m := grid(r, 19, true, 20)
	hold(t, m, values(r, 400, 3), 100)
	many := api.Mesh{Points: m.Points} // each edge of so many triangles, nearly all of which lie on one another
	for a := range 400 {
		for _, step := range []int{1, 2, 3} {
			b, c := a+step, a+20*(4-step)
			if b%20 > a%20 && c < 400 && len(many.Tris) < 900 {
				many.Tris = append(many.Tris, api.Tri{a, b, c})
			}
		}
	}
	must(t, mesh.Check(many))
	edges, e := mesh.Edges(many)
	must(t, e)
	for _, e := range edges[:1300] {
		many.Segs = append(many.Segs, api.Seg{A: e[0], B: e[1], Fixed: e[0]%2 == 0})
	}
	if len(many.Tris) != 900 || len(many.Segs) != 1300 {
		t.Fatalf("%d triangles, %d segments", len(many.Tris), len(many.Segs))
	}
	hold(t, many, values(r, 400, 2), 1)
	few, _ := triangle()
	hold(t, few, []api.Rat{fraction(r, 8000), fraction(r, 8000), long(8000)}, 100)
}

// TestLongest reads back the longest exact file that there is: 400 values of 8000 bytes above the stroke and below it.
func TestLongest(t *testing.T) {
	m := grid(random(), 19, true, 45)
	ones := new(big.Int).Sub(new(big.Int).Lsh(big.NewInt(1), 64000), big.NewInt(1))
	longest := ratOf(new(big.Rat).SetFrac(new(big.Int).Neg(ones), new(big.Int).Sub(ones, big.NewInt(1))))
	u := slices.Repeat([]api.Rat{longest}, 400)
	text, e := emit.Exact(m, u)
	must(t, e)
	if n, v, e := emit.Read(text); !sameMesh(n, m) || !slices.Equal(v, u) || e != api.OK {
		t.Errorf("P23.4: %d bytes: error %d", len(text), e)
	}
}

// TestRounding looks at numbers that are just between two decimals, and a bit beside them.
func TestRounding(t *testing.T) {
	m, _ := triangle()
	for _, places := range []int{0, 1, 3, 100} {
		power := new(big.Rat).SetInt(new(big.Int).Exp(big.NewInt(10), big.NewInt(int64(places)), nil))
		for n := -7; n <= 7; n += 2 {
			between := new(big.Rat).Quo(big.NewRat(int64(n), 2), power)
			bit := new(big.Rat).Quo(big.NewRat(1, 1<<40), power)
			hold(t, m, []api.Rat{ratOf(between), ratOf(new(big.Rat).Add(between, bit)), ratOf(new(big.Rat).Sub(between, bit))}, places)
		}
	}
}

// TestHalfAPlace holds that what is told for looking at is as near as half a place, in points and values, and has the same points and triangles in the same order.
func TestHalfAPlace(t *testing.T) {
	r := random()
	for i := range 20 {
		m, places := grid(r, 1+i%3, true, 2), i*5
		u := values(r, len(m.Points), 1+i)
		look, e := emit.Vtk(m, u, places)
		must(t, e)
		lines := strings.Split(look, "\n")[5:]
		half := new(big.Rat).SetFrac(big.NewInt(1), new(big.Int).Exp(big.NewInt(10), big.NewInt(int64(places)), nil))
		half.Quo(half, big.NewRat(2, 1))
		near := func(token string, a api.Rat) {
			t.Helper()
			x, ok := new(big.Rat).SetString(token)
			if !ok || x.Sub(x, bigOf(a)).Abs(x).Cmp(half) > 0 {
				t.Fatalf("P23.4: %q, of %v", token, bigOf(a))
			}
		}
		for k, p := range m.Points {
			tokens := strings.Split(lines[k], " ")
			near(tokens[0], p.X)
			near(tokens[1], p.Y)
			near(tokens[2], rat.Of(0))
		}
		for k, a := range u {
			near(lines[len(lines)-1-len(u)+k], a)
		}
	}
}

// TestMemory holds that nothing handed in is changed, and that the same is answered again, in memory of its own.
func TestMemory(t *testing.T) {
	m, u := triangle()
	u = append(u, part(7, 9)) // spare room
	given, givenU := cloned(m), slices.Clone(u)
	text, _ := emit.Exact(m, u[:3])
	look, _ := emit.Vtk(m, u[:3], 9)
	for range 3 {
		again, _ := emit.Exact(m, u[:3])
		lookAgain, _ := emit.Vtk(m, u[:3], 9)
		if again != text || lookAgain != look {
			t.Fatal("R6: asked again, it is another file")
		}
		if !sameMesh(m, given) || !slices.Equal(u, givenU) {
			t.Fatal("R5: what was handed in is changed")
		}
		n, v, e := emit.Read(text)
		if !sameMesh(n, m) || !slices.Equal(v, u[:3]) || e != api.OK {
			t.Fatalf("P23.4: error %d", e)
		}
		clear(n.Points[:cap(n.Points)])
		clear(n.Tris[:cap(n.Tris)])
		clear(n.Segs[:cap(n.Segs)])
		if !slices.Equal(v, u[:3]) {
			t.Fatal("R5: two lists of one answer share memory")
		}
		clear(v[:cap(v)])
	}
}
