package limb_test

import (
	"math/big"
	"math/rand/v2"
	"slices"
	"strings"
	"testing"

	"gusset/api"
	"gusset/limb"
)

const top = 1<<64 - 1

// value is the number of limbs as the library has it: what the answers are held against.
func value(row []uint64) *big.Int {
	x := new(big.Int)
	for i := len(row) - 1; i >= 0; i-- {
		x.Lsh(x, 64).Or(x, new(big.Int).SetUint64(row[i]))
	}
	return x
}

// rowOf is a number's trimmed limbs.
func rowOf(x *big.Int) []uint64 {
	var row []uint64
	for rest := new(big.Int).Set(x); rest.Sign() > 0; rest.Rsh(rest, 64) {
		row = append(row, new(big.Int).And(rest, new(big.Int).SetUint64(top)).Uint64())
	}
	return row
}

func random() *rand.Rand { return rand.New(rand.NewPCG(1, 2)) }

// rowFrom is n limbs, many of them ones at which carries and guesses go wrong first.
func rowFrom(r *rand.Rand, n int) []uint64 {
	edges := []uint64{0, 1, 2, top, top - 1, 1 << 63, 1<<63 - 1, 1<<63 + 1}
	row := make([]uint64, n)
	for i := range row {
		row[i] = r.Uint64()
		if r.IntN(2) == 0 {
			row[i] = edges[r.IntN(len(edges))]
		}
	}
	return row
}

// ones is n limbs with all bits set.
func ones(n int) []uint64 { return slices.Repeat([]uint64{top}, n) }

// same tells whether a row is trimmed, and is the number x.
func same(row []uint64, x *big.Int) bool { return slices.Equal(row, rowOf(x)) }

func TestOf(t *testing.T) {
	for i, c := range []struct {
		n api.Nat
		l []uint64
		e api.Errno
	}{
		{"", nil, api.OK},
		{"\x01", []uint64{1}, api.OK},
		{"\xff\xff\xff\xff\xff\xff\xff\xff", []uint64{top}, api.OK},
		{"\x01\x00\x00\x00\x00\x00\x00\x00\x05", []uint64{5, 1}, api.OK},
		{"\x01\x02\x03\x04\x05\x06\x07\x08\x09\x0a", []uint64{0x030405060708090a, 0x0102}, api.OK},
		{"\x80" + api.Nat(strings.Repeat("\x00", 31999)), append(make([]uint64, 3999), 1<<63), api.OK},
		{api.Nat(strings.Repeat("\xff", 32000)), ones(4000), api.OK},
		{"\x00", nil, api.ErrArg},
		{"\x00\x05", nil, api.ErrArg},
		{api.Nat(make([]byte, 32000)), nil, api.ErrArg},
		{api.Nat(strings.Repeat("\xff", 32001)), nil, api.ErrLimit},
		{api.Nat(make([]byte, 32001)), nil, api.ErrLimit},
	} {
		if l, e := limb.Of(c.n); !slices.Equal(l, c.l) || e != c.e {
			t.Errorf("P1.1: case %d: %d limbs, error %d", i, len(l), e)
		}
	}
}

func TestNat(t *testing.T) {
	for i, c := range []struct {
		l []uint64
		n api.Nat
		e api.Errno
	}{
		{nil, "", api.OK},
		{[]uint64{}, "", api.OK},
		{[]uint64{0, 0, 0}, "", api.OK},
		{make([]uint64, 4000), "", api.OK},
		{[]uint64{5, 1}, "\x01\x00\x00\x00\x00\x00\x00\x00\x05", api.OK},
		{[]uint64{5, 1, 0, 0}, "\x01\x00\x00\x00\x00\x00\x00\x00\x05", api.OK},
		{[]uint64{0, 0x100}, "\x01\x00\x00\x00\x00\x00\x00\x00\x00\x00", api.OK},
		{ones(4000), api.Nat(strings.Repeat("\xff", 32000)), api.OK},
		{ones(4001), "", api.ErrLimit},
		{make([]uint64, 4001), "", api.ErrLimit},
	} {
		if n, e := limb.Nat(c.l); n != c.n || e != c.e {
			t.Errorf("P1.1: case %d: %d bytes, error %d", i, len(n), e)
		}
	}
}

func TestNatOfLimbs(t *testing.T) {
	r := random()
	for n := range 200 {
		row := rowFrom(r, n/4)
		nat, e := limb.Nat(row)
		if string(nat) != string(value(row).Bytes()) || e != api.OK {
			t.Fatalf("P1.1: Nat of %x: %x, error %d", row, nat, e)
		}
		if back, e := limb.Of(nat); !same(back, value(row)) || e != api.OK {
			t.Fatalf("P1.1: Of of %x: %x, error %d", nat, back, e)
		}
	}
}

// pairs calls f with pairs of rows of many lengths, longer ones among them.
func pairs(f func(a []uint64, b []uint64)) {
	r := random()
	for range 4000 {
		f(rowFrom(r, r.IntN(9)), rowFrom(r, r.IntN(6)))
	}
	for range 60 {
		f(rowFrom(r, r.IntN(300)), rowFrom(r, r.IntN(200)))
	}
	for n := 38; n < 90; n++ {
		f(rowFrom(r, n), rowFrom(r, n))
		f(ones(2*n), ones(n))
	}
	for _, n := range []int{1, 79, 2000, 3999, 4000} {
		f(rowFrom(r, 4000), rowFrom(r, n))
		f(ones(4000), ones(n))
		f(rowFrom(r, n), append(rowFrom(r, 5), make([]uint64, 3995)...))
	}
}

func TestCmp(t *testing.T) {
	pairs(func(a []uint64, b []uint64) {
		for _, c := range [][2][]uint64{{a, b}, {b, a}, {a, a}, {a, append(slices.Clone(a[:min(len(a), 3990)]), make([]uint64, 9)...)}} {
			if x, e := limb.Cmp(c[0], c[1]); x != value(c[0]).Cmp(value(c[1])) || e != api.OK {
				t.Fatalf("P1.2: %x, %x: %d, error %d", c[0], c[1], x, e)
			}
		}
	})
	for i, c := range []struct {
		a, b []uint64
		x    int
	}{
		{nil, []uint64{0, 0}, 0}, {nil, []uint64{0, 1}, -1}, {[]uint64{0, 1}, []uint64{top}, 1},
		{[]uint64{1, 2}, []uint64{2, 1}, 1}, {[]uint64{3, 0}, []uint64{3}, 0},
	} {
		if x, e := limb.Cmp(c.a, c.b); x != c.x || e != api.OK {
			t.Errorf("P1.2: case %d: %d, error %d", i, x, e)
		}
	}
}

func TestAdd(t *testing.T) {
	pairs(func(a []uint64, b []uint64) {
		want := new(big.Int).Add(value(a), value(b))
		for _, c := range [][2][]uint64{{a, b}, {b, a}} {
			if s, e := limb.Add(c[0], c[1]); !same(s, want) || e != api.OK {
				t.Fatalf("P1.2: %x, %x: %x, error %d", a, b, s, e)
			}
		}
	})
	if s, e := limb.Add(ones(4000), []uint64{1}); !slices.Equal(s, append(make([]uint64, 4000), 1)) || e != api.OK {
		t.Errorf("P1.2: a sum of 4001 limbs: %d, error %d", len(s), e)
	}
}

func TestSub(t *testing.T) {
	pairs(func(a []uint64, b []uint64) {
		want := new(big.Int).Sub(value(a), value(b))
		if want.Sign() < 0 {
			a, b = b, a
			want.Neg(want)
		}
		if d, e := limb.Sub(a, b); !same(d, want) || e != api.OK {
			t.Fatalf("P1.2: %x, %x: %x, error %d", a, b, d, e)
		}
		if want.Sign() == 0 {
			return
		}
		if d, e := limb.Sub(b, a); len(d) != 0 || e != api.ErrLess {
			t.Fatalf("P1.2: %x, %x: %x, error %d", b, a, d, e)
		}
	})
	if d, e := limb.Sub([]uint64{1, 0, 0}, []uint64{1}); len(d) != 0 || e != api.OK {
		t.Errorf("P1.2: %d, error %d", d, e)
	}
	if d, e := limb.Sub(nil, []uint64{1}); len(d) != 0 || e != api.ErrLess {
		t.Errorf("P1.2: %d, error %d", d, e)
	}
}

func TestMul(t *testing.T) {
	pairs(func(a []uint64, b []uint64) {
		want := new(big.Int).Mul(value(a), value(b))
		for _, c := range [][2][]uint64{{a, b}, {b, a}} {
			if p, e := limb.Mul(c[0], c[1]); !same(p, want) || e != api.OK {
				t.Fatalf("P1.2: %x, %x: %x, error %d", a, b, p, e)
			}
		}
	})
	if p, e := limb.Mul([]uint64{top}, []uint64{top}); !slices.Equal(p, []uint64{1, top - 1}) || e != api.OK {
		t.Errorf("P1.2: %d, error %d", p, e)
	}
	if p, e := limb.Mul(ones(4000), ones(4000)); len(p) != 8000 || e != api.OK {
		t.Errorf("P1.2: a product of 8000 limbs: %d, error %d", len(p), e)
	}
	if p, e := limb.Mul(ones(4000), []uint64{0, 0}); len(p) != 0 || e != api.OK {
		t.Errorf("P1.2: %d, error %d", p, e)
	}
}

// divides holds a division against the library's.
func divides(t *testing.T, a []uint64, b []uint64) {
	t.Helper()
	x, y := value(a), value(b)
	q, r, e := limb.DivMod(a, b)
	if y.Sign() == 0 {
		if len(q) != 0 || len(r) != 0 || e != api.ErrZero {
			t.Fatalf("P1.2: %x by 0: %x, %x, error %d", a, q, r, e)
		}
		return
	}
	quotient, rest := new(big.Int).QuoRem(x, y, new(big.Int))
	if !same(q, quotient) || !same(r, rest) || e != api.OK {
		t.Fatalf("P1.2: %x by %x: %x, %x, error %d", a, b, q, r, e)
	}
}

func TestDivMod(t *testing.T) {
	pairs(func(a []uint64, b []uint64) {
		divides(t, a, b)
		divides(t, b, a)
	})
	divides(t, []uint64{0, 1}, []uint64{3})
	divides(t, []uint64{0, 0, 1, 0}, []uint64{0, 1, 0})
	divides(t, nil, []uint64{7})
	divides(t, []uint64{7}, []uint64{7})
	divides(t, []uint64{7}, nil)
	divides(t, []uint64{7}, make([]uint64, 4000))
	q, r, e := limb.DivMod([]uint64{0, 1}, []uint64{3})
	if !slices.Equal(q, []uint64{6148914691236517205}) || !slices.Equal(r, []uint64{1}) || e != api.OK {
		t.Errorf("P1.2: %d, %d, error %d", q, r, e)
	}
}

// TestGuesses takes dividends just below and above multiples, where a limb of the quotient is guessed too great.
func TestGuesses(t *testing.T) {
	r := random()
	for range 4000 {
		b := rowFrom(r, 2+r.IntN(4))
		b[len(b)-1] |= 1 << 63 >> r.IntN(3)
		multiple := new(big.Int).Mul(value(b), value(rowFrom(r, 1+r.IntN(4))))
		for step := int64(-2); step <= 2; step++ {
			if x := new(big.Int).Add(multiple, big.NewInt(step)); x.Sign() >= 0 {
				divides(t, rowOf(x), b)
			}
		}
	}
	divides(t, []uint64{0, 0, 1 << 63}, []uint64{top, 1 << 63})
	divides(t, []uint64{0, top - 1, 1 << 63}, []uint64{top, 1 << 63})
	divides(t, []uint64{3, 0, 1 << 63}, []uint64{1, 0, 1 << 61})
	divides(t, []uint64{0, 0, 1 << 63, 1<<63 - 1}, []uint64{1, 0, 1 << 63})
}

func TestTooLong(t *testing.T) {
	long, fits, zeros := ones(4001), []uint64{1}, make([]uint64, 4001)
	for i, c := range [][2][]uint64{{long, fits}, {fits, long}, {long, long}, {zeros, nil}, {nil, zeros}, {long, nil}, {nil, long}} {
		if x, e := limb.Cmp(c[0], c[1]); x != 0 || e != api.ErrLimit {
			t.Errorf("P1.2: Cmp, case %d: %d, error %d", i, x, e)
		}
		if l, e := limb.Add(c[0], c[1]); len(l) != 0 || e != api.ErrLimit {
			t.Errorf("P1.2: Add, case %d: %d limbs, error %d", i, len(l), e)
		}
		if l, e := limb.Sub(c[0], c[1]); len(l) != 0 || e != api.ErrLimit {
			t.Errorf("P1.2: Sub, case %d: %d limbs, error %d", i, len(l), e)
		}
		if l, e := limb.Mul(c[0], c[1]); len(l) != 0 || e != api.ErrLimit {
			t.Errorf("P1.2: Mul, case %d: %d limbs, error %d", i, len(l), e)
		}
		if q, r, e := limb.DivMod(c[0], c[1]); len(q) != 0 || len(r) != 0 || e != api.ErrLimit {
			t.Errorf("P1.2: DivMod, case %d: %d and %d limbs, error %d", i, len(q), len(r), e)
		}
	}
}

func TestLaws(t *testing.T) {
	must := func(l []uint64, e api.Errno) []uint64 {
		t.Helper()
		if e != api.OK {
			t.Fatalf("P1.3: error %d", e)
		}
		return l
	}
	r := random()
	for range 500 {
		a, b, c := rowFrom(r, r.IntN(90)), rowFrom(r, r.IntN(90)), rowFrom(r, r.IntN(90))
		sum, product := must(limb.Add(a, b)), must(limb.Mul(a, b))
		if x, _ := limb.Cmp(must(limb.Sub(sum, b)), a); x != 0 {
			t.Fatalf("P1.3: %x and %x: what is added is not taken away", a, b)
		}
		if !slices.Equal(sum, must(limb.Add(b, a))) || !slices.Equal(product, must(limb.Mul(b, a))) {
			t.Fatalf("P1.3: %x and %x: the order counts", a, b)
		}
		apart := must(limb.Add(must(limb.Mul(a, c)), must(limb.Mul(b, c))))
		if !slices.Equal(must(limb.Mul(sum, c)), apart) {
			t.Fatalf("P1.3: %x, %x, %x: a product of a sum is no sum of products", a, b, c)
		}
		q, rest, e := limb.DivMod(a, b)
		if e == api.ErrZero {
			continue
		}
		back := must(limb.Add(must(limb.Mul(q, b)), rest))
		if x, _ := limb.Cmp(back, a); x != 0 {
			t.Fatalf("P1.3: %x by %x is not put together again", a, b)
		}
		if x, _ := limb.Cmp(rest, b); x != -1 {
			t.Fatalf("P1.3: %x by %x: the rest is too great", a, b)
		}
	}
}

// calls are all calls with two rows, with their lists alone.
func calls(a []uint64, b []uint64) [][]uint64 {
	sum, _ := limb.Add(a, b)
	difference, _ := limb.Sub(a, b)
	product, _ := limb.Mul(a, b)
	quotient, rest, _ := limb.DivMod(a, b)
	return [][]uint64{sum, difference, product, quotient, rest}
}

// TestNewMemory writes over all that was answered, its spare room too, and then over what was handed in: neither is to be seen elsewhere.
func TestNewMemory(t *testing.T) {
	r := random()
	for range 300 {
		a, b := rowFrom(r, r.IntN(100)), rowFrom(r, r.IntN(60))
		handedA, handedB := slices.Clone(a), slices.Clone(b)
		answers, again := calls(a, b), calls(a, b)
		if !slices.Equal(a, handedA) || !slices.Equal(b, handedB) {
			t.Fatal("R5: what was handed in is changed")
		}
		for i, l := range answers {
			if !slices.Equal(l, again[i]) {
				t.Fatalf("R6: call %d answers otherwise", i)
			}
			for k := range l[:cap(l)] {
				l[:cap(l)][k] ^= 0x55
			}
			for k := i + 1; k < len(answers); k++ {
				if !slices.Equal(answers[k], again[k]) {
					t.Fatalf("R5: answers %d and %d share memory", i, k)
				}
			}
		}
		if !slices.Equal(a, handedA) || !slices.Equal(b, handedB) {
			t.Fatal("R5: an answer shares memory with what was handed in")
		}
		third := calls(a, b)
		clear(a)
		clear(b)
		for i, l := range third {
			if !slices.Equal(l, again[i]) {
				t.Fatalf("R5: answer %d is kept with what was handed in", i)
			}
		}
	}
}

// TestRoomBehind hands in rows with room behind them, which is not theirs to be read or written.
func TestRoomBehind(t *testing.T) {
	whole := []uint64{9, 8, 0, 7, 6}
	a := whole[:3]
	if n, e := limb.Nat(a); n != "\x08\x00\x00\x00\x00\x00\x00\x00\x09" || e != api.OK {
		t.Errorf("R5: %x, error %d", n, e)
	}
	for _, l := range calls(a, whole[1:2]) {
		_ = append(l, 1, 2, 3)
	}
	if !slices.Equal(whole, []uint64{9, 8, 0, 7, 6}) {
		t.Errorf("R5: %d", whole)
	}
}
