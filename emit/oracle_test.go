package emit_test

import (
	"math/big"
	"math/rand/v2"
	"regexp"
	"slices"
	"strconv"
	"strings"
	"testing"

	"gusset/api"
	"gusset/mesh"
	"gusset/rat"
	"gusset/whole"
)

// What the answers are held against: the library's numbers, and patterns for tokens.

var (
	blanks      = regexp.MustCompile(`[ \t\n]+`)
	numberToken = regexp.MustCompile(`^(0|-?[1-9][0-9]*)(/[1-9][0-9]*)?$`)
	countToken  = regexp.MustCompile(`^(0|[1-9][0-9]{0,3})$`)
)

func at(x, y int) api.Point { return api.Point{X: rat.Of(x), Y: rat.Of(y)} }

// ratOf is a number of the library as a Rat, bigOf the other way.
func ratOf(x *big.Rat) api.Rat {
	num := api.Int{Neg: x.Sign() < 0, Mag: api.Nat(x.Num().Bytes())}
	return api.Rat{Num: num, Den: api.Nat(x.Denom().Bytes())}
}

func bigOf(a api.Rat) *big.Rat {
	x := new(big.Rat).SetFrac(new(big.Int).SetBytes([]byte(a.Num.Mag)), new(big.Int).SetBytes([]byte(a.Den)))
	if a.Num.Neg {
		x.Neg(x)
	}
	return x
}

func part(n int, d int) api.Rat { return ratOf(big.NewRat(int64(n), int64(d))) }

// wantExact is the exact file of a mesh and values that may be.
func wantExact(m api.Mesh, u []api.Rat) string {
	text := "mesh\nv " + strconv.Itoa(len(m.Points)) + "\n"
	for i, p := range m.Points {
		text += bigOf(p.X).RatString() + " " + bigOf(p.Y).RatString() + " " + bigOf(u[i]).RatString() + "\n"
	}
	text += "t " + strconv.Itoa(len(m.Tris)) + "\n"
	for _, t := range m.Tris {
		text += strconv.Itoa(t[0]) + " " + strconv.Itoa(t[1]) + " " + strconv.Itoa(t[2]) + "\n"
	}
	text += "s " + strconv.Itoa(len(m.Segs)) + "\n"
	for _, s := range m.Segs {
		kind := "n"
		if s.Fixed {
			kind = "d"
		}
		text += strconv.Itoa(s.A) + " " + strconv.Itoa(s.B) + " " + kind + "\n"
	}
	return text + "end\n"
}

// wantDecimal is a number rounded to so many places: of two as near the one with an even last digit.
func wantDecimal(a api.Rat, places int) string {
	power := new(big.Int).Exp(big.NewInt(10), big.NewInt(int64(places)), nil)
	x := new(big.Rat).Mul(bigOf(a), new(big.Rat).SetInt(power))
	down := new(big.Int).Div(x.Num(), x.Denom())
	rest := new(big.Rat).Sub(x, new(big.Rat).SetInt(down))
	if order := rest.Cmp(big.NewRat(1, 2)); order > 0 || order == 0 && down.Bit(0) == 1 {
		down.Add(down, big.NewInt(1))
	}
	sign := ""
	if down.Sign() < 0 {
		sign = "-"
	}
	text := new(big.Int).Abs(down).String()
	text = strings.Repeat("0", max(places+1-len(text), 0)) + text
	if places > 0 {
		text = text[:len(text)-places] + "." + text[len(text)-places:]
	}
	return sign + text
}

// wantVtk is the file for looking at of a mesh and values that may be.
func wantVtk(m api.Mesh, u []api.Rat, places int) string {
	points, tris := strconv.Itoa(len(m.Points)), strconv.Itoa(len(m.Tris))
	lines := []string{"# vtk DataFile Version 3.0", "gusset", "ASCII", "DATASET UNSTRUCTURED_GRID", "POINTS " + points + " double"}
	for _, p := range m.Points {
		lines = append(lines, wantDecimal(p.X, places)+" "+wantDecimal(p.Y, places)+" "+wantDecimal(rat.Of(0), places))
	}
	lines = append(lines, "CELLS "+tris+" "+strconv.Itoa(4*len(m.Tris)))
	for _, t := range m.Tris {
		lines = append(lines, "3 "+strconv.Itoa(t[0])+" "+strconv.Itoa(t[1])+" "+strconv.Itoa(t[2]))
	}
	lines = append(lines, "CELL_TYPES "+tris)
	for range m.Tris {
		lines = append(lines, "5")
	}
	lines = append(lines, "POINT_DATA "+points, "SCALARS u double 1", "LOOKUP_TABLE default")
	for _, a := range u {
		lines = append(lines, wantDecimal(a, places))
	}
	return strings.Join(lines, "\n") + "\n"
}

// asking goes through tokens, as long as they are right. What is asked for beyond the last one is empty, and so is none of those that are right.
type asking struct {
	tokens []string
	ok     bool
}

func (a *asking) next() string {
	if len(a.tokens) == 0 {
		return ""
	}
	token := a.tokens[0]
	a.tokens = a.tokens[1:]
	return token
}

func (a *asking) word(w string) { a.ok = a.next() == w && a.ok }

func (a *asking) count(below int) int {
	token := a.next()
	n, _ := strconv.Atoi(token)
	a.ok = a.ok && countToken.MatchString(token) && n < below
	if !a.ok {
		return 0
	}
	return n
}

// wantRead is what a text is.
func wantRead(s string) (api.Mesh, []api.Rat, api.Errno) {
	if len(s) > 1<<24 {
		return api.Mesh{}, nil, api.ErrLimit
	}
	a := &asking{slices.DeleteFunc(blanks.Split(s, -1), func(token string) bool { return token == "" }), true}
	a.word("mesh")
	a.word("v")
	numbers := make([]string, 3*a.count(401))
	for i := range numbers {
		numbers[i] = a.next()
		a.ok = a.ok && numberToken.MatchString(numbers[i])
	}
	a.word("t")
	m := api.Mesh{Tris: make([]api.Tri, a.count(901))}
	for i := range m.Tris {
		m.Tris[i] = api.Tri{a.count(len(numbers) / 3), a.count(len(numbers) / 3), a.count(len(numbers) / 3)}
	}
	a.word("s")
	m.Segs = make([]api.Seg, a.count(1301))
	for i := range m.Segs {
		m.Segs[i] = api.Seg{A: a.count(len(numbers) / 3), B: a.count(len(numbers) / 3)}
		kind := a.next()
		m.Segs[i].Fixed = kind == "d"
		a.ok = a.ok && (kind == "d" || kind == "n")
	}
	a.word("end")
	if !a.ok || len(a.tokens) > 0 {
		return api.Mesh{}, nil, api.ErrSyntax
	}
	told := []api.Rat(nil)
	for _, token := range numbers {
		x, e := wantNumber(token)
		if e != api.OK {
			return api.Mesh{}, nil, e
		}
		told = append(told, x)
	}
	u := []api.Rat(nil)
	for ; len(told) > 0; told = told[3:] {
		m.Points, u = append(m.Points, api.Point{X: told[0], Y: told[1]}), append(u, told[2])
	}
	if e := mesh.Check(m); e != api.OK {
		return api.Mesh{}, nil, e
	}
	return m, u, api.OK
}

// wantNumber is that of a number's token.
func wantNumber(token string) (api.Rat, api.Errno) {
	over, under, _ := strings.Cut(strings.TrimPrefix(token, "-"), "/")
	if len(over) > 60000 || len(under) > 60000 {
		return api.Rat{}, api.ErrLimit
	}
	x, _ := new(big.Rat).SetString(token)
	if len(x.Num().Bytes()) > 8000 || len(x.Denom().Bytes()) > 8000 {
		return api.Rat{}, api.ErrLimit
	}
	return ratOf(x), api.OK
}

func sameMesh(m, n api.Mesh) bool {
	return slices.Equal(m.Points, n.Points) && slices.Equal(m.Tris, n.Tris) && slices.Equal(m.Segs, n.Segs)
}

func cloned(m api.Mesh) api.Mesh {
	return api.Mesh{Points: slices.Clone(m.Points), Tris: slices.Clone(m.Tris), Segs: slices.Clone(m.Segs)}
}

func random() *rand.Rand { return rand.New(rand.NewPCG(231, 232)) }

// natural is a number of n bytes.
func natural(r *rand.Rand, n int) *big.Int {
	bytes := make([]byte, n)
	for i := range bytes {
		bytes[i] = byte(r.Uint32())
	}
	bytes[0] |= 0x80
	return new(big.Int).SetBytes(bytes)
}

// fraction is a number of n bytes above the stroke and below it (less, if both can be cut), of either sign; now and then it is 0, or a whole one.
func fraction(r *rand.Rand, n int) api.Rat {
	x := new(big.Rat).SetFrac(natural(r, n), natural(r, n))
	switch r.IntN(8) {
	case 0:
		return rat.Of(0)
	case 1:
		x.SetInt(x.Num())
	}
	if r.IntN(2) == 0 {
		x.Neg(x)
	}
	return ratOf(x)
}

// values are count such numbers.
func values(r *rand.Rand, count, n int) []api.Rat {
	out := []api.Rat(nil)
	for range count {
		out = append(out, fraction(r, n))
	}
	return out
}

// triangle is one with two of its edges as segments, and values at its corners.
func triangle() (api.Mesh, []api.Rat) {
	m := api.Mesh{
		Points: []api.Point{at(0, 0), at(2, 0), {X: rat.Of(0), Y: part(7, 3)}},
		Tris:   []api.Tri{{0, 1, 2}},
		Segs:   []api.Seg{{A: 1, B: 0, Fixed: true}, {A: 2, B: 0}},
	}
	return m, []api.Rat{rat.Of(0), part(-1, 2), rat.Of(5)}
}

// grid is a mesh of squares, n by n, each of two triangles, all of whose edges are segments if it is told so; it is drawn smaller, and moved, by numbers of so many bytes.
func grid(r *rand.Rand, n int, held bool, bytes int) api.Mesh {
	m := api.Mesh{}
	small, move := new(big.Rat).SetFrac(big.NewInt(1), natural(r, bytes)), new(big.Rat).SetInt(natural(r, bytes))
	place := func(x int) api.Rat {
		return ratOf(new(big.Rat).Mul(small, new(big.Rat).Sub(big.NewRat(int64(x), 1), move)))
	}
	for i := range (n + 1) * (n + 1) {
		m.Points = append(m.Points, api.Point{X: place(i % (n + 1)), Y: place(i / (n + 1))})
	}
	for i := range n * n {
		a := i%n + i/n*(n+1)
		m.Tris = append(m.Tris, api.Tri{a, a + 1, a + n + 2}, api.Tri{a + n + 2, a + n + 1, a})
	}
	edges, _ := mesh.Edges(m)
	for i, e := range edges {
		if held || r.IntN(3) == 0 {
			m.Segs = append(m.Segs, api.Seg{A: e[i%2], B: e[1-i%2], Fixed: r.IntN(2) == 0})
		}
	}
	return m
}

func nat(n int) api.Nat { return api.Nat(strings.Repeat("\x01", n)) }

// wrongs are numbers that are not in their one form; long is 1 divided by a number of n bytes.
func wrongs() []api.Rat {
	one := whole.Of(1)
	return []api.Rat{
		{}, {Num: one}, {Num: api.Int{Neg: true}, Den: "\x01"}, {Num: whole.Of(2), Den: "\x04"}, {Den: "\x02"},
		{Num: one, Den: "\x00\x01"}, {Num: api.Int{Mag: "\x00\x01"}, Den: "\x01"}, {Num: api.Int{Mag: nat(40)}, Den: nat(40)},
	}
}

func long(n int) api.Rat { return api.Rat{Num: whole.Of(1), Den: nat(n)} }

// must ends a test where a call has an error.
func must(t *testing.T, e api.Errno) {
	t.Helper()
	if e != api.OK {
		t.Fatalf("error %d", e)
	}
}
