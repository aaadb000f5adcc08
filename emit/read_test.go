package emit_test

import (
	"math/big"
	"math/rand/v2"
	"slices"
	"strings"
	"testing"

	"gusset/api"
	"gusset/emit"
)

// holdRead holds what is read of a text against the words, and tells the error.
func holdRead(t *testing.T, s string) api.Errno {
	t.Helper()
	want, values, kind := wantRead(s)
	m, u, e := emit.Read(s)
	if !sameMesh(m, want) || !slices.Equal(u, values) || e != kind {
		t.Fatalf("P23.2: %.300q: %v, %d values, error %d, not %d", s, m.Tris, len(u), e, kind)
	}
	return e
}

// plain is the exact file of a triangle.
func plain() string { return wantExact(triangle()) }

// TestReadExamples reads files that are like that of a triangle.
func TestReadExamples(t *testing.T) {
	for i, c := range []struct {
		old, with string
		e         api.Errno
	}{
		{"7/3", "14/6", api.OK}, {"7/3", "0/6", api.ErrMesh}, {"-1/2", "-0/2", api.ErrSyntax}, {"-1/2", "-0", api.ErrSyntax}, {"-1/2", "0/5", api.OK},
		{"-1/2", "1/-2", api.ErrSyntax}, {"-1/2", "-1/02", api.ErrSyntax}, {"-1/2", "-01/2", api.ErrSyntax}, {"-1/2", "+1/2", api.ErrSyntax},
		{"-1/2", "--1/2", api.ErrSyntax}, {"-1/2", "-/2", api.ErrSyntax}, {"-1/2", "-1/", api.ErrSyntax}, {"-1/2", "/2", api.ErrSyntax},
		{"-1/2", "-1/2/3", api.ErrSyntax}, {"-1/2", "-1/0", api.ErrSyntax}, {"-1/2", "-1 /2", api.ErrSyntax}, {"-1/2", "-0.5", api.ErrSyntax},
		{"-1/2", "1e3", api.ErrSyntax}, {"-1/2", "1_000", api.ErrSyntax}, {"-1/2", "\u0663", api.ErrSyntax}, {"-1/2", "-4/8", api.OK},
		{"mesh", "Mesh", api.ErrSyntax}, {"mesh\n", "", api.ErrSyntax}, {"mesh", "mesh mesh", api.ErrSyntax}, {"mesh\n", "mesh", api.ErrSyntax},
		{"v 3", "v 2", api.ErrSyntax}, {"v 3", "v 4", api.ErrSyntax}, {"v 3", "v +3", api.ErrSyntax}, {"v 3", "v 03", api.ErrSyntax}, {"v 3", "v 0003", api.ErrSyntax},
		{"v 3", "v 401", api.ErrSyntax}, {"v 3", "v -1", api.ErrSyntax}, {"v 3", "v 3/1", api.ErrSyntax}, {"v 3", "v 4294967299", api.ErrSyntax},
		{"v 3", "v", api.ErrSyntax}, {"v 3", "3", api.ErrSyntax}, {"v 3", "t 3", api.ErrSyntax},
		{"t 1", "t 2", api.ErrSyntax}, {"t 1", "t 0", api.ErrSyntax}, {"t 1", "t 901", api.ErrSyntax}, {"t 1\n0 1 2", "t 0", api.ErrMesh},
		{"0 1 2", "1 2 0", api.OK}, {"0 1 2", "0 1 3", api.ErrSyntax}, {"0 1 2", "0 1 -1", api.ErrSyntax}, {"0 1 2", "0 1 02", api.ErrSyntax},
		{"0 1 2", "0 2 1", api.ErrMesh}, {"0 1 2", "0 0 1", api.ErrMesh}, {"0 1 2", "0 1", api.ErrSyntax}, {"0 1 2", "0 1 2 2", api.ErrSyntax},
		{"s 2", "s 1", api.ErrSyntax}, {"s 2", "s 1301", api.ErrSyntax}, {"s 2", "s 3", api.ErrSyntax}, {"s 2\n1 0 d\n2 0 n", "s 0", api.OK},
		{"1 0 d", "1 0 x", api.ErrSyntax}, {"1 0 d", "1 0 dn", api.ErrSyntax}, {"1 0 d", "1 0", api.ErrSyntax}, {"1 0 d", "1 3 d", api.ErrSyntax}, {"1 0 d", "1 1 d", api.ErrMesh},
		{"1 0 d", "0 1 n", api.OK}, {"1 0 d", "0 2 d", api.ErrMesh}, {"1 0 d", "1 -0 d", api.ErrSyntax},
		{"end", "end end", api.ErrSyntax}, {"end", "", api.ErrSyntax}, {"end\n", "end", api.OK}, {"end", "en d", api.ErrSyntax}, {"end", "end\x00", api.ErrSyntax},
		{"\n", "\t \n", api.OK}, {"\n", "\r\n", api.ErrSyntax}, {"\n", "\v", api.ErrSyntax}, {" ", "\u00a0", api.ErrSyntax}, {" ", "\x00", api.ErrSyntax},
		{"mesh", "\n\t mesh", api.OK}, {"mesh", "\ufeffmesh", api.ErrSyntax}, {"mesh", "\xffmesh", api.ErrSyntax},
	} {
		if e := holdRead(t, strings.Replace(plain(), c.old, c.with, 1)); e != c.e {
			t.Errorf("P23.2: case %d: %q for %q: error %d", i, c.with, c.old, e)
		}
	}
	for _, s := range []string{"", " ", "\n", "mesh", "mesh v 0 t 0 s 0", "mesh v 0 t 1 0 0 0 s 0 end", "mesh v 0 t 0 s 1 0 0 d end"} {
		if e := holdRead(t, s); e != api.ErrSyntax {
			t.Errorf("P23.2: %q: error %d", s, e)
		}
	}
	if e := holdRead(t, "mesh v 0 t 0 s 0 end"); e != api.OK {
		t.Errorf("P23.2: no mesh: error %d", e)
	}
}

// changed is a text with some of its tokens taken out, put in, or changed for others.
func changed(r *rand.Rand, s string) string {
	tokens := strings.Fields(s)
	others := append([]string{"0", "1", "2", "3", "-1", "1/2", "6/4", "d", "n", "end", "v", "t", "s", "mesh", "400", "1300", "-0", "00", "1/0", "x"}, tokens...)
	for range 1 + r.IntN(2) {
		i := r.IntN(len(tokens))
		switch r.IntN(5) {
		case 0:
			tokens = slices.Delete(tokens, i, i+1)
		case 1:
			tokens = slices.Insert(tokens, i, others[r.IntN(len(others))])
		default:
			tokens[i] = others[r.IntN(len(others))]
		}
	}
	out := ""
	for _, token := range tokens {
		out += token + []string{" ", "\n", "\t", " \n", "\t\t "}[r.IntN(5)]
	}
	return out
}

// TestChanged reads files that are nearly right.
func TestChanged(t *testing.T) {
	r := random()
	seen := map[api.Errno]int{}
	for i := range 6000 {
		m := grid(r, 1+i%2, i%3 == 0, 1)
		s := wantExact(m, values(r, len(m.Points), 1))
		if i%2 == 0 {
			s = plain()
		}
		seen[holdRead(t, changed(r, s))]++
	}
	if seen[api.OK] < 300 || seen[api.ErrSyntax] < 300 || seen[api.ErrMesh] < 300 {
		t.Errorf("errors %v", seen)
	}
}

// TestCut reads each beginning of a file, and each with a byte changed.
func TestCut(t *testing.T) {
	for i := range plain() {
		holdRead(t, plain()[:i])
		holdRead(t, plain()[i:])
		for _, c := range []string{"", " ", "\n", "0", "1", "9", "-", "/", "d", "\x00", "\x80"} {
			holdRead(t, plain()[:i]+c+plain()[i+1:])
			holdRead(t, plain()[:i]+c+plain()[i:])
		}
	}
}

// TestManyCounts reads counts just at what there may be, and one beyond.
func TestManyCounts(t *testing.T) {
	points := func(n string, many int) string { return "mesh v " + n + strings.Repeat(" 0 0 0", many) }
	for i, c := range []struct {
		s string
		e api.Errno
	}{
		{points("400", 400) + " t 0 s 0 end", api.OK}, {points("401", 401) + " t 0 s 0 end", api.ErrSyntax}, {points("0401", 401) + " t 0 s 0 end", api.ErrSyntax},
		{points("3", 3) + " t 900" + strings.Repeat(" 0 1 2", 900) + " s 0 end", api.ErrMesh}, {points("3", 3) + " t 901" + strings.Repeat(" 0 1 2", 901) + " s 0 end", api.ErrSyntax},
		{points("3", 3) + " t 0 s 1300" + strings.Repeat(" 0 1 d", 1300) + " end", api.ErrMesh}, {points("3", 3) + " t 0 s 1301" + strings.Repeat(" 0 1 d", 1301) + " end", api.ErrSyntax},
	} {
		if e := holdRead(t, c.s); e != c.e {
			t.Errorf("P23.2: case %d: error %d", i, e)
		}
	}
}

// with is the file of a triangle with another value.
func with(value string) string { return strings.Replace(plain(), "-1/2", value, 1) }

// TestLongNumbers reads numbers of many digits: such that are as long as they may be, one digit longer, and such that are short in their lowest terms alone.
func TestLongNumbers(t *testing.T) {
	r := random()
	for n := 1; n < 20000; n += 1 + n/3 {
		for range 3 {
			x := new(big.Int).Exp(big.NewInt(10), big.NewInt(int64(n)), nil)
			y := new(big.Int).Add(x, big.NewInt(int64(r.IntN(1000))))
			z := new(big.Int).Rem(natural(r, 1+n/2), x)
			for _, s := range []string{x.String(), y.String(), x.Sub(x, big.NewInt(1)).String(), z.String(), "-" + y.String() + "/" + x.String(), "1/" + y.String()} {
				holdRead(t, with(s))
			}
		}
	}
	common := strings.Repeat("9", 50000) // a factor that both have
	factor, _ := new(big.Int).SetString(common, 10)
	for i, c := range []struct {
		s string
		e api.Errno
	}{
		{common + "/" + common, api.OK}, {"-3" + strings.Repeat("0", 49999) + "/1" + strings.Repeat("0", 49999), api.OK},
		{strings.Repeat("7", 60000) + "/" + strings.Repeat("1", 60000), api.OK}, {strings.Repeat("7", 60001) + "/" + strings.Repeat("1", 60001), api.ErrLimit},
		{"1" + strings.Repeat("0", 60000) + "/1" + strings.Repeat("0", 59999), api.ErrLimit}, {"1/1" + strings.Repeat("0", 60000), api.ErrLimit},
		{"-" + strings.Repeat("8", 60000) + "/" + strings.Repeat("4", 60000), api.OK}, {strings.Repeat("1", 60000), api.ErrLimit}, {"1/" + strings.Repeat("1", 60000), api.ErrLimit},
		{"0/" + strings.Repeat("1", 60000), api.OK}, {"0/" + strings.Repeat("1", 60001), api.ErrLimit}, {strings.Repeat("1", 60001) + "/01", api.ErrSyntax},
		{greatest(0).String(), api.OK}, {greatest(1).String(), api.ErrLimit}, {"-" + greatest(0).String() + "/2", api.OK}, {"1/" + greatest(0).String(), api.OK}, {"1/" + greatest(1).String(), api.ErrLimit},
		{product(factor, greatest(0)) + "/" + common, api.ErrLimit}, // more digits than there may be
		{product(factor, big.NewInt(77)) + "/" + product(factor, big.NewInt(-78))[1:], api.OK},
		{product(greatest(0), greatest(-2)) + "/" + product(greatest(-2), big.NewInt(3)), api.OK},
		{product(greatest(1), greatest(-2)) + "/" + product(greatest(-2), big.NewInt(3)), api.ErrLimit},
	} {
		if e := holdRead(t, with(c.s)); e != c.e {
			t.Errorf("P23.2: case %d: error %d", i, e)
		}
	}
}

// greatest is 256^8000 - 1, and so much more.
func greatest(more int64) *big.Int {
	x := new(big.Int).Lsh(big.NewInt(1), 64000)
	return x.Add(x, big.NewInt(more-1))
}

func product(x, y *big.Int) string { return new(big.Int).Mul(x, y).String() }

// TestWhereLong holds that a number that is too long is told behind all that is no exact file, and ahead of what is no mesh; and that a point's number may have 100 bytes.
func TestWhereLong(t *testing.T) {
	tooLong, point := strings.Repeat("3", 20000), strings.Repeat("3", 300)
	for i, c := range []struct {
		s string
		e api.Errno
	}{
		{with(tooLong), api.ErrLimit}, {strings.Replace(with(tooLong), "0 1 2", "0 2 1", 1), api.ErrLimit}, {strings.Replace(with(tooLong), "end", "", 1), api.ErrSyntax},
		{strings.Replace(with(tooLong), "7/3", "7/0", 1), api.ErrSyntax}, {strings.Replace(plain(), "7/3", tooLong, 1), api.ErrLimit},
		{strings.Replace(plain(), "7/3", point, 1), api.ErrLimit}, {strings.Replace(plain(), "7/3", point+"/"+point, 1), api.OK},
		{strings.Replace(strings.Replace(plain(), "7/3", point, 1), "0 1 2", "0 2 1", 1), api.ErrLimit}, {with(point), api.OK},
		{strings.Replace(strings.Replace(with(tooLong), "7/3", strings.Repeat("5", 70000), 1), "1 0 d", "1 0", 1), api.ErrSyntax},
	} {
		if e := holdRead(t, c.s); e != c.e {
			t.Errorf("P23.2: case %d: error %d", i, e)
		}
	}
}

// TestLongTexts reads texts of 2^24 bytes, and of one more: of blanks, of digits, of tokens.
func TestLongTexts(t *testing.T) {
	fill := func(ahead, with, behind string) string {
		return ahead + strings.Repeat(with, (1<<24-len(ahead)-len(behind))/len(with)) + behind
	}
	for i, c := range []struct {
		s string
		e api.Errno
	}{
		{fill("", " ", plain()), api.OK}, {fill(plain(), "\n", ""), api.OK}, {fill("mesh", "\t", plain()[4:]), api.OK},
		{fill(plain(), "x", ""), api.ErrSyntax}, {fill("", "0 ", ""), api.ErrSyntax}, {fill("mesh v 1 ", "7", " 0 0 t 0 s 0 end"), api.ErrLimit},
		{fill("mesh v 1 7/", "7", " 0 0 t 0 s 0 end "), api.ErrLimit}, {fill("mesh v 0 t 0 s 0 ", "end ", ""), api.ErrSyntax}, {fill("", "\x00", ""), api.ErrSyntax},
	} {
		if _, _, e := emit.Read(c.s); len(c.s) < 1<<24-8 || e != c.e {
			t.Errorf("P23.2: case %d: %d bytes, error %d", i, len(c.s), e)
		}
	}
	s := fill(plain(), " ", "")
	if m, u, e := emit.Read(s + " "); len(s) != 1<<24 || !sameMesh(m, api.Mesh{}) || len(u) > 0 || e != api.ErrLimit {
		t.Errorf("P23.2: a byte too many: %v, %v, error %d", m, u, e)
	}
}
