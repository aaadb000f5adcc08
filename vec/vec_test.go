package vec_test

import (
	"math/big"
	"math/rand/v2"
	"slices"
	"strings"
	"testing"

	"gusset/api"
	"gusset/rat"
	"gusset/vec"
	"gusset/whole"
)

// ratOf is a number of the library as a Rat: what the answers are held against.
func ratOf(x *big.Rat) api.Rat {
	num := api.Int{Neg: x.Sign() < 0, Mag: api.Nat(x.Num().Bytes())}
	return api.Rat{Num: num, Den: api.Nat(x.Denom().Bytes())}
}

// place is a point of the library's numbers.
type place struct{ x, y *big.Rat }

func (p place) point() api.Point { return api.Point{X: ratOf(p.x), Y: ratOf(p.y)} }

func times(x *big.Rat, y *big.Rat) *big.Rat { return new(big.Rat).Mul(x, y) }
func plus(x *big.Rat, y *big.Rat) *big.Rat  { return new(big.Rat).Add(x, y) }
func minus(x *big.Rat, y *big.Rat) *big.Rat { return new(big.Rat).Sub(x, y) }

func random() *rand.Rand { return rand.New(rand.NewPCG(11, 12)) }

// fraction is a number of n bytes at most above the stroke and below it, of either sign. Whole numbers, 0 and denominators in common are frequent.
func fraction(r *rand.Rand, n int) *big.Rat {
	over, under := make([]byte, n), make([]byte, n)
	for i := range n {
		over[i], under[i] = byte(r.Uint32()), byte(r.Uint32())
	}
	x, y := new(big.Int).SetBytes(over), new(big.Int).SetBytes(under)
	switch r.IntN(6) {
	case 0:
		y = big.NewInt(1)
	case 1:
		y = new(big.Int).Lsh(big.NewInt(3), uint(r.IntN(8*n-1)))
	case 2:
		x = new(big.Int).SetInt64(int64(r.IntN(3)))
	}
	if y.Sign() == 0 {
		y = big.NewInt(1)
	}
	if r.IntN(2) == 0 {
		x.Neg(x)
	}
	return new(big.Rat).SetFrac(x, y)
}

// longest are numbers of 8000 bytes above the stroke and below it, no two of whose denominators have much in common.
func longest(n int) []*big.Rat {
	r := random()
	out := make([]*big.Rat, n)
	for i := range out {
		over, under := make([]byte, 8000), make([]byte, 8000)
		for k := range over {
			over[k], under[k] = byte(r.Uint32()), byte(r.Uint32())
		}
		over[0], under[0] = 0xff, 0xff
		out[i] = new(big.Rat).SetFrac(new(big.Int).SetBytes(over), new(big.Int).SetBytes(under))
		if i%3 == 1 {
			out[i].Neg(out[i])
		}
	}
	return out
}

// pairs calls f with pairs of points of many lengths.
func pairs(f func(p place, q place)) {
	r := random()
	for range 500 {
		n := 1 + r.IntN(20)
		f(place{fraction(r, n), fraction(r, n)}, place{fraction(r, n), fraction(r, n)})
	}
	for range 10 {
		n := 1 + r.IntN(400)
		p := place{fraction(r, n), fraction(r, n)}
		f(p, place{fraction(r, n), fraction(r, n)})
		f(p, p)
		f(p, place{new(big.Rat).Neg(p.y), p.x})
	}
	l := longest(4)
	f(place{l[0], l[1]}, place{l[2], l[3]})
	f(place{l[0], l[0]}, place{l[1], l[1]})
}

// wrongNumber, longNumber are numbers that may not be.
func wrongNumber() api.Rat { return api.Rat{Num: whole.Of(2), Den: "\x04"} }
func longNumber() api.Rat {
	return api.Rat{Num: whole.Of(1), Den: api.Nat(strings.Repeat("\x01", 8001))}
}

func TestCheck(t *testing.T) {
	good, wrong, long := rat.Of(3), wrongNumber(), longNumber()
	full := api.Rat{Num: whole.Of(1), Den: api.Nat(strings.Repeat("\x01", 8000))}
	for i, c := range []struct {
		x, y api.Rat
		e    api.Errno
	}{
		{good, good, api.OK}, {full, full, api.OK}, {rat.Of(0), rat.Of(0), api.OK},
		{wrong, good, api.ErrArg}, {good, wrong, api.ErrArg}, {good, api.Rat{}, api.ErrArg},
		{long, good, api.ErrLimit}, {good, long, api.ErrLimit},
		{long, wrong, api.ErrLimit}, {wrong, long, api.ErrArg},
	} {
		if e := vec.Check(api.Point{X: c.x, Y: c.y}); e != c.e {
			t.Errorf("P4.1: case %d: error %d", i, e)
		}
	}
}

// TestWrongNumbers puts one or two numbers that may not be in every place: the first one's error is told.
func TestWrongNumbers(t *testing.T) {
	for first := range 4 {
		for second := first; second < 4; second++ {
			for _, wrong := range [][2]api.Rat{{wrongNumber(), longNumber()}, {longNumber(), wrongNumber()}} {
				l := []api.Rat{rat.Of(1), rat.Of(2), rat.Of(3), rat.Of(4)}
				l[second] = wrong[1]
				l[first] = wrong[0]
				holdWrong(t, l, rat.Check(wrong[0]))
			}
		}
	}
}

// holdWrong asks the calls of four numbers, one of which may not be.
func holdWrong(t *testing.T, l []api.Rat, want api.Errno) {
	t.Helper()
	p, q := api.Point{X: l[0], Y: l[1]}, api.Point{X: l[2], Y: l[3]}
	for i, call := range []func(api.Point, api.Point) (api.Point, api.Errno){vec.Plus, vec.Minus} {
		if s, e := call(p, q); s != (api.Point{}) || e != want {
			t.Errorf("P4.1: Plus, Minus, call %d: error %d, not %d", i, e, want)
		}
	}
	for i, call := range []func(api.Point, api.Point) (api.Rat, api.Errno){vec.Dot, vec.Cross} {
		if a, e := call(p, q); a != (api.Rat{}) || e != want {
			t.Errorf("P4.1: Dot, Cross, call %d: error %d, not %d", i, e, want)
		}
	}
	if want := firstError(l[:3]); want != api.OK {
		if s, e := vec.Scale(p, l[2]); s != (api.Point{}) || e != want {
			t.Errorf("P4.1: Scale: error %d, not %d", e, want)
		}
	}
	if want := firstError(l[:2]); want != api.OK {
		if a, e := vec.Norm2(p); a != (api.Rat{}) || e != want {
			t.Errorf("P4.1: Norm2: error %d, not %d", e, want)
		}
	}
	if a, e := vec.Det([][]api.Rat{l[:2], l[2:]}); a != (api.Rat{}) || e != want {
		t.Errorf("P4.1: Det: error %d, not %d", e, want)
	}
}

// firstError is rat.Check's of the first number that may not be.
func firstError(l []api.Rat) api.Errno {
	for _, a := range l {
		if e := rat.Check(a); e != api.OK {
			return e
		}
	}
	return api.OK
}

func TestPoints(t *testing.T) {
	pairs(func(p place, q place) {
		a, b := p.point(), q.point()
		for _, c := range []struct {
			name string
			call func() (api.Point, api.Errno)
			want place
		}{
			{"Plus", func() (api.Point, api.Errno) { return vec.Plus(a, b) }, place{plus(p.x, q.x), plus(p.y, q.y)}},
			{"Minus", func() (api.Point, api.Errno) { return vec.Minus(a, b) }, place{minus(p.x, q.x), minus(p.y, q.y)}},
			{"Scale", func() (api.Point, api.Errno) { return vec.Scale(a, b.X) }, place{times(p.x, q.x), times(p.y, q.x)}},
		} {
			if s, e := c.call(); s != c.want.point() || e != api.OK {
				t.Fatalf("P4.2: %s of %v, %v: %v, error %d", c.name, p, q, s, e)
			}
		}
		for _, c := range []struct {
			name string
			call func() (api.Rat, api.Errno)
			want *big.Rat
		}{
			{"Dot", func() (api.Rat, api.Errno) { return vec.Dot(a, b) }, plus(times(p.x, q.x), times(p.y, q.y))},
			{"Cross", func() (api.Rat, api.Errno) { return vec.Cross(a, b) }, minus(times(p.x, q.y), times(p.y, q.x))},
			{"Norm2", func() (api.Rat, api.Errno) { return vec.Norm2(a) }, plus(times(p.x, p.x), times(p.y, p.y))},
		} {
			if s, e := c.call(); s != ratOf(c.want) || e != api.OK {
				t.Fatalf("P4.2: %s of %v, %v: %v, error %d", c.name, p, q, s, e)
			}
		}
	})
}

// determinant is that of the library's numbers: the sum over all ways to take one of each row and of each column.
func determinant(m [][]*big.Rat) *big.Rat {
	sum := new(big.Rat)
	var go1 func(row int, taken []int, product *big.Rat)
	go1 = func(row int, taken []int, product *big.Rat) {
		if row == len(m) {
			sum.Add(sum, product)
			return
		}
		for k, x := range m[row] {
			if slices.Contains(taken, k) {
				continue
			}
			next := times(product, x)
			for _, before := range taken {
				if before > k {
					next.Neg(next)
				}
			}
			go1(row+1, append(slices.Clone(taken), k), next)
		}
	}
	go1(0, nil, big.NewRat(1, 1))
	return sum
}

// matrix is one of n rows, of numbers of that many bytes.
func matrix(r *rand.Rand, n int, bytes int) [][]*big.Rat {
	m := make([][]*big.Rat, n)
	for i := range m {
		for range n {
			m[i] = append(m[i], fraction(r, bytes))
		}
	}
	return m
}

func matrixOf(m [][]*big.Rat) [][]api.Rat {
	out := make([][]api.Rat, len(m))
	for i, row := range m {
		for _, x := range row {
			out[i] = append(out[i], ratOf(x))
		}
	}
	return out
}

func TestDet(t *testing.T) {
	r := random()
	for n := 1; n <= 4; n++ {
		for range 150 {
			m := matrix(r, n, 1+r.IntN(12))
			asked := matrixOf(m)
			if a, e := vec.Det(asked); a != ratOf(determinant(m)) || e != api.OK {
				t.Fatalf("P4.3: Det of %v: %v, error %d", m, a, e)
			}
			for i, row := range matrixOf(m) {
				if !slices.Equal(row, asked[i]) {
					t.Fatalf("R5: Det changed row %d", i)
				}
			}
		}
		m := matrix(r, n, 200)
		if a, e := vec.Det(matrixOf(m)); a != ratOf(determinant(m)) || e != api.OK {
			t.Errorf("P4.3: Det of %d rows of 200 bytes: error %d", n, e)
		}
	}
}

// TestDetOfLongest asks determinants of the longest numbers: on the way they are far longer than what may be handed in.
func TestDetOfLongest(t *testing.T) {
	l := longest(16)
	for i, m := range [][][]*big.Rat{
		{l[:3], l[3:6], l[6:9]},
		{{l[0], l[1], l[0]}, {l[1], l[2], l[1]}, {l[2], l[0], big.NewRat(1, 3)}},
		{l[:4], l[4:8], l[8:12], l[12:]},
	} {
		det, e := vec.Det(matrixOf(m))
		if e != api.OK {
			t.Errorf("P4.3: case %d: error %d", i, e)
			continue
		}
		holdLong(t, m, det)
	}
}

// holdLong tells whether a number is the determinant of m. The library takes long to find lowest terms of such long numbers, so they are held by products; and what of the number's terms is in common would divide one of the denominators of m.
func holdLong(t *testing.T, m [][]*big.Rat, det api.Rat) {
	t.Helper()
	n, d := new(big.Int).SetBytes([]byte(det.Num.Mag)), new(big.Int).SetBytes([]byte(det.Den))
	under := big.NewInt(1)
	rows := make([][]*big.Rat, len(m))
	for i, row := range m {
		all := big.NewInt(1)
		for _, x := range row {
			all.Mul(all, x.Denom())
			shared := new(big.Int).GCD(nil, nil, n, x.Denom())
			if shared.GCD(nil, nil, shared, d).Cmp(big.NewInt(1)) != 0 {
				t.Errorf("P4.3: Det of %d rows is not in its lowest terms", len(m))
			}
		}
		for _, x := range row {
			rest := new(big.Int).Quo(all, x.Denom())
			rows[i] = append(rows[i], new(big.Rat).SetInt(rest.Mul(rest, x.Num())))
		}
		under.Mul(under, all)
	}
	over := determinant(rows).Num()
	if det.Num.Neg {
		n.Neg(n)
	}
	if over.Mul(over, d).Cmp(n.Mul(n, under)) != 0 {
		t.Errorf("P4.3: Det of %d rows of 8000 bytes", len(m))
	}
}

func TestDetOfWrongShapes(t *testing.T) {
	row := func(n int, a api.Rat) []api.Rat { return slices.Repeat([]api.Rat{a}, n) }
	good, wrong, long := rat.Of(1), wrongNumber(), longNumber()
	for i, c := range []struct {
		m [][]api.Rat
		e api.Errno
	}{
		{nil, api.ErrArg},
		{[][]api.Rat{}, api.ErrArg},
		{[][]api.Rat{nil}, api.ErrArg},
		{[][]api.Rat{row(2, good)}, api.ErrArg},
		{[][]api.Rat{row(2, good), row(1, good)}, api.ErrArg},
		{[][]api.Rat{row(2, good), row(3, good)}, api.ErrArg},
		{[][]api.Rat{row(3, good), row(3, good)}, api.ErrArg},
		{[][]api.Rat{row(3, good), nil, row(3, good)}, api.ErrArg},
		{[][]api.Rat{row(4, good), row(4, good), row(4, good), row(5, good)}, api.ErrArg},
		{[][]api.Rat{row(5, good), row(5, good), row(5, good), row(5, good), row(5, good)}, api.ErrArg},
		{make([][]api.Rat, 5), api.ErrArg},
		{[][]api.Rat{row(2, long), row(1, long)}, api.ErrArg}, // the shape is ahead of the numbers
		{[][]api.Rat{row(5, long), row(5, long), row(5, long), row(5, long), row(5, long)}, api.ErrArg},
		{[][]api.Rat{row(1, long)}, api.ErrLimit},
		{[][]api.Rat{row(1, wrong)}, api.ErrArg},
		{[][]api.Rat{{good, long}, {wrong, good}}, api.ErrLimit},
		{[][]api.Rat{{good, wrong}, {long, good}}, api.ErrArg},
		{[][]api.Rat{row(4, good), row(4, good), row(4, good), {good, good, good, long}}, api.ErrLimit},
	} {
		if a, e := vec.Det(c.m); a != (api.Rat{}) || e != c.e {
			t.Errorf("P4.3: case %d: %v, error %d", i, a, e)
		}
	}
}

func TestExamples(t *testing.T) {
	east, north := api.Point{X: rat.Of(1), Y: rat.Of(0)}, api.Point{X: rat.Of(0), Y: rat.Of(1)}
	if a, e := vec.Cross(east, north); a != rat.Of(1) || e != api.OK {
		t.Errorf("Cross: %v, error %d", a, e)
	}
	if a, e := vec.Det([][]api.Rat{{rat.Of(1), rat.Of(2)}, {rat.Of(3), rat.Of(4)}}); a != rat.Of(-2) || e != api.OK {
		t.Errorf("Det: %v, error %d", a, e)
	}
}
