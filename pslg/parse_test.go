package pslg_test

import (
	"slices"
	"strconv"
	"strings"
	"testing"

	"gusset/api"
	"gusset/pslg"
	"gusset/rat"
)

// plain is a text that has something of everything.
const plain = "pslg\nv 3\n0 0\n1/2 -3\n10 7/9\ns 3\n0 1 d\n1 2 n\n2 2 d\nh 2\n5 5\n-1/3 6\nf 1 0 2 0 -7 0\ng 0 1 0 3/4 0 -2/3\nend\n"

// hold asks for the plan of a text.
func hold(t *testing.T, s string) {
	t.Helper()
	want, ok := wanted(s)
	p, e := pslg.Parse(s)
	switch {
	case ok && (e != api.OK || !same(p, want)):
		t.Fatalf("P8.1: Parse of %q: %v, error %d", s, p, e)
	case !ok && (e != api.ErrSyntax || !isNothing(p)):
		t.Fatalf("P8.1: Parse of %q, which is no plan's text: %v, error %d", s, p, e)
	}
}

// refused holds that a text is no plan's.
func refused(t *testing.T, s string) {
	t.Helper()
	if p, e := pslg.Parse(s); e != api.ErrSyntax || !isNothing(p) {
		t.Errorf("P8.1: Parse of %q: %v, error %d", s, p, e)
	}
}

// taken holds that a text is a plan's, and is that plan.
func taken(t *testing.T, s string) api.Plan {
	t.Helper()
	p, e := pslg.Parse(s)
	if e != api.OK {
		t.Errorf("P8.1: Parse of %q: error %d", s, e)
	}
	return p
}

// frac is a number of small ones.
func frac(t *testing.T, n int, d int) api.Rat {
	t.Helper()
	a, e := rat.Div(rat.Of(n), rat.Of(d))
	if e != api.OK {
		t.Fatalf("error %d", e)
	}
	return a
}

// plainPlan is what plain says.
func plainPlan(t *testing.T) api.Plan {
	t.Helper()
	n := rat.Of
	return api.Plan{
		Points: []api.Point{{X: n(0), Y: n(0)}, {X: frac(t, 1, 2), Y: n(-3)}, {X: n(10), Y: frac(t, 7, 9)}},
		Segs:   []api.Seg{{A: 0, B: 1, Fixed: true}, {A: 1, B: 2}, {A: 2, B: 2, Fixed: true}},
		Holes:  []api.Point{{X: n(5), Y: n(5)}, {X: frac(t, -1, 3), Y: n(6)}},
		F:      api.Poly{n(1), n(0), n(2), n(0), n(-7), n(0)},
		G:      api.Poly{n(0), n(1), n(0), frac(t, 3, 4), n(0), frac(t, -2, 3)},
	}
}

func TestPlain(t *testing.T) {
	if p := taken(t, plain); !same(p, plainPlan(t)) {
		t.Errorf("P8.1: %v", p)
	}
}

func TestExample(t *testing.T) {
	p := taken(t, "pslg v 0 s 0 h 0 f 0 0 0 0 0 0 g 1/2 0 0 0 0 0 end")
	zero := rat.Of(0)
	want := api.Plan{F: api.Poly{zero, zero, zero, zero, zero, zero}, G: api.Poly{frac(t, 1, 2), zero, zero, zero, zero, zero}}
	if !same(p, want) {
		t.Errorf("P8.1: %v", p)
	}
}

func TestNumbers(t *testing.T) {
	nines := strings.Repeat("9", 60)
	with := func(token string) string { return strings.Replace(plain, "7/9", token, 1) }
	for _, token := range []string{"0", "-1", "6/4", "-6/4", "0/7", "5/1", nines, "-" + nines, "1/" + nines, "-" + nines + "/1" + strings.Repeat("0", 59)} {
		want, _ := rat.Parse(token)
		if p := taken(t, with(token)); len(p.Points) != 3 || p.Points[2].Y != want {
			t.Errorf("P8.1: the number %s: %v", token, p.Points)
		}
	}
	for _, token := range []string{"-0", "00", "01", "+1", "1.5", "1e2", "1/0", "1/-2", "1/02", "/2", "1/", "-", "/", "1/2/3", "x", "d", "n", "s", "end", "0x1", "1_0", nines + "9", "1/" + nines + "9", "1\x00", "\xff"} {
		refused(t, with(token))
	}
}

// padded is a text with so many blanks behind it that it has n bytes.
func padded(s string, n int) string { return s + strings.Repeat(" ", n-len(s)) }

func TestLength(t *testing.T) {
	taken(t, padded(plain, 20000))
	taken(t, strings.Repeat("\n", 20000-len(plain))+plain)
	refused(t, padded("plsg", 20000))
	for _, s := range []string{padded(plain, 20001), padded("", 20001), strings.Repeat("x", 20001), strings.Repeat("x", 1<<20), padded("pslg", 20001)} {
		if p, e := pslg.Parse(s); e != api.ErrLimit || !isNothing(p) {
			t.Errorf("P8.1: a text of %d bytes: error %d", len(s), e)
		}
	}
}

// counted is a text with so many points, segments and holes as told, of which the counts are told as these tokens.
func counted(points, segs, holes int, v, s, h string) string {
	numbers := " 0 0 0 0 0 0 "
	return "pslg v " + v + strings.Repeat(" 1/2 -3", points) + " s " + s + strings.Repeat(" 0 0 d", segs) +
		" h " + h + strings.Repeat(" 7 8", holes) + " f" + numbers + "g" + numbers + "end"
}

func TestCounts(t *testing.T) {
	for _, n := range []int{0, 1, 2, 9, 10, 11, 39, 40, 41, 59, 60, 61, 99, 100, 101, 600, 999, 1000, 1001} {
		token := strconv.Itoa(n)
		if n > 999 { // a text that is short enough to be read
			refused(t, counted(1, 1, 1, token, "1", "1"))
			refused(t, counted(1, 1, 1, "1", token, "1"))
			refused(t, counted(1, 1, 1, "1", "1", token))
			continue
		}
		for i, c := range []struct {
			text string
			most int
			of   func(p api.Plan) int
		}{
			{counted(n, 0, 3, token, "0", "3"), 40, func(p api.Plan) int { return len(p.Points) }},
			{counted(2, n, 3, "2", token, "3"), 60, func(p api.Plan) int { return len(p.Segs) }},
			{counted(2, 3, n, "2", "3", token), 10, func(p api.Plan) int { return len(p.Holes) }},
		} {
			switch {
			case n > c.most:
				refused(t, c.text)
			case c.of(taken(t, c.text)) != n:
				t.Errorf("P8.1: list %d of %d", i, n)
			}
		}
	}
	all := taken(t, counted(40, 60, 10, "40", "60", "10"))
	if len(all.Points) != 40 || len(all.Segs) != 60 || len(all.Holes) != 10 {
		t.Errorf("P8.1: %v", all)
	}
}

// TestWrongCounts puts tokens that are none, or too great, for the counts 2, in every place of one.
func TestWrongCounts(t *testing.T) {
	for _, token := range []string{"02", "002", "0002", "00", "+2", "-2", "2.", "2/1", "4/2", "2x", "x2", "x", "1", "3", "0", "20", "200", "2000", "99999999999999999999", "18446744073709551618", "²", "２", "/", ":", "d", "\x002"} {
		for i := range 3 {
			tokens := []string{"2", "2", "2"}
			tokens[i] = token
			refused(t, counted(2, 2, 2, tokens[0], tokens[1], tokens[2]))
		}
	}
	for _, token := range []string{"01", "001", "0001", "00", "000", "+0", "-0", "-1", "1/1", "x", "", "1000", "0000", "999", "100"} {
		for i := range 2 {
			ends := []string{"0", "1"}
			ends[i] = token
			refused(t, strings.Replace(plain, "0 1 d", ends[0]+" "+ends[1]+" d", 1))
		}
	}
}

func TestEnds(t *testing.T) {
	for _, points := range []int{1, 2, 9, 10, 11, 40} {
		text := func(a, b int) string {
			return strings.Replace(counted(points, 2, 0, strconv.Itoa(points), "2", "0"), "0 0 d", strconv.Itoa(a)+" "+strconv.Itoa(b)+" n", 1)
		}
		last := points - 1
		for _, ends := range [][2]int{{last, 0}, {0, last}, {last, last}} {
			if p := taken(t, text(ends[0], ends[1])); len(p.Segs) != 2 || p.Segs[0] != (api.Seg{A: ends[0], B: ends[1]}) {
				t.Errorf("P8.1: the ends %v: %v", ends, p.Segs)
			}
		}
		for _, ends := range [][2]int{{points, 0}, {0, points}, {points, points}, {points + 1, 0}, {-1, 0}, {0, -1}} {
			refused(t, text(ends[0], ends[1]))
		}
	}
	refused(t, counted(0, 1, 0, "0", "1", "0"))
}

func TestKinds(t *testing.T) {
	for token, fixed := range map[string]bool{"d": true, "n": false} {
		p := taken(t, strings.Replace(plain, "1 2 n", "1 2 "+token, 1))
		if len(p.Segs) != 3 || p.Segs[1] != (api.Seg{A: 1, B: 2, Fixed: fixed}) {
			t.Errorf("P8.1: the kind %s: %v", token, p.Segs)
		}
	}
	for _, token := range []string{"D", "N", "dn", "nd", "dd", "x", "", "0", "1", "d,", "true"} {
		refused(t, strings.Replace(plain, "1 2 n", "1 2 "+token, 1))
	}
}

// TestBlanks holds that blanks turn nothing: each kind of them, and many; ahead, between and behind.
func TestBlanks(t *testing.T) {
	tokens, want := tokensOf(plain), plainPlan(t)
	for _, blank := range []string{" ", "\t", "\n", "  ", "\t\t", "\n\n", " \t\n", "\n \t \n", strings.Repeat(" \n\t", 9)} {
		joined := strings.Join(tokens, blank)
		for _, s := range []string{joined, blank + joined, joined + blank, blank + joined + blank} {
			if p := taken(t, s); !same(p, want) {
				t.Errorf("P8.3: blanks %q: %v", blank, p)
			}
		}
	}
	for _, other := range []string{"\r", "\v", "\f", "\x00", "\u0085", "\u00a0", "\u2003", "\u2028", "\xa0", "\x85", ",", ";", "", "\\n"} {
		refused(t, strings.Join(tokens, other))
		refused(t, strings.Join(tokens, " "+other+"x"))
		if other != "" {
			refused(t, other+plain)
			refused(t, plain+other)
			refused(t, other+" "+plain)
			refused(t, plain+" "+other)
		}
		for i := range len(tokens) - 1 {
			refused(t, strings.Join(tokens[:i+1], " ")+other+strings.Join(tokens[i+1:], " "))
		}
	}
	for _, s := range []string{"", " ", "\n\t", "pslg", "end"} {
		refused(t, s)
	}
}

// TestWrongTokens puts a wrong token in every place, leaves one out, puts one more in, and lets the text end early.
func TestWrongTokens(t *testing.T) {
	tokens := tokensOf(plain)
	joined := func(parts ...[]string) string { return strings.Join(slices.Concat(parts...), " ") }
	for i, token := range tokens {
		for _, wrong := range []string{"x", "-", "pslgx", strings.ToUpper(token) + "!", token + token + "e", "\xff" + token, token + "\x00"} {
			refused(t, joined(tokens[:i], []string{wrong}, tokens[i+1:]))
		}
		refused(t, joined(tokens[:i], tokens[i+1:]))
		refused(t, joined(tokens[:i+1], tokens[i:]))
		refused(t, joined(tokens[:i]))
		refused(t, joined(tokens[i+1:]))
		for _, more := range []string{"x", "0", "1/2", "d", "n", "s", "h", "f", "g", "v", "end", "pslg"} {
			refused(t, joined(tokens[:i], []string{more}, tokens[i:]))
			hold(t, joined(tokens[:i], []string{more}, tokens[i+1:]))
		}
	}
	for _, more := range []string{"x", "0", "end", "pslg", plain} {
		refused(t, plain+more)
	}
	for _, name := range []string{"pslg", "v ", "s ", "h ", "f ", "g ", "end"} {
		refused(t, strings.Replace(plain, name, strings.ToUpper(name), 1))
	}
}

// TestAnyTexts asks about texts that something was done to, here and there.
func TestAnyTexts(t *testing.T) {
	r := random()
	letters := " \t\n\r\v0123459/-dnvshfgx"
	for i := range 4000 {
		text := []byte(textOf(r, 1+r.IntN(4), r.IntN(3), r.IntN(2), 1+r.IntN(3)))
		for range i % 4 {
			k := r.IntN(len(text))
			letter := letters[r.IntN(len(letters))]
			switch r.IntN(3) {
			case 0:
				text[k] = letter
			case 1:
				text = slices.Insert(text, k, letter)
			case 2:
				text = slices.Delete(text, k, k+1)
			}
		}
		hold(t, string(text))
	}
}

// TestLong asks about texts of many numbers, of many digits.
func TestLong(t *testing.T) {
	r := random()
	for _, n := range []int{1, 5, 20, 59, 60} {
		for range 5 {
			hold(t, textOf(r, 40, 60, 10, n))
		}
	}
}

// TestOwnMemory holds that what is answered is new, and that its lists share nothing.
func TestOwnMemory(t *testing.T) {
	p, q := taken(t, plain), taken(t, plain)
	p.Points = append(p.Points, api.Point{})
	p.Segs = append(p.Segs, api.Seg{A: 9})
	p.Holes = append(p.Holes, api.Point{})
	for i := range p.Points {
		p.Points[i] = api.Point{}
	}
	if !slices.Equal(p.Holes[:2], plainPlan(t).Holes) {
		t.Error("R5: points and holes share memory")
	}
	clear(p.Holes)
	clear(p.Segs)
	if again := taken(t, plain); !same(q, plainPlan(t)) || !same(again, q) {
		t.Error("R5, R6: what is answered is not new")
	}
}
