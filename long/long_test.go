package long_test

import (
	"math/big"
	"math/rand/v2"
	"strings"
	"testing"

	"gusset/api"
	"gusset/long"
)

// intOf is a number of the library as an Int: what the answers are held against.
func intOf(x *big.Int) api.Int {
	return api.Int{Neg: x.Sign() < 0, Mag: api.Nat(x.Bytes())}
}

// numbers are whole numbers on both sides of the lengths at which they are parted: full of ones, with noughts at the end, with noughts between, and of any bytes.
func numbers() []*big.Int {
	r := rand.New(rand.NewPCG(7, 8))
	out := []*big.Int{big.NewInt(0), big.NewInt(1), big.NewInt(-1), big.NewInt(300)}
	for _, n := range []int{16000, 16001, 32000, 32001, 48000, 64001} {
		any := make([]byte, n)
		for i := range any {
			any[i] = byte(r.Uint32())
		}
		noughts := strings.Repeat("\x00", n-2)
		for i, text := range []string{string(any), strings.Repeat("\xff", n), "\x01" + noughts + "\x00", "\x01" + noughts + "\x01"} {
			x := new(big.Int).SetBytes([]byte(text))
			if (i+n)%2 == 1 {
				x.Neg(x)
			}
			out = append(out, x)
		}
	}
	return out
}

func TestSums(t *testing.T) {
	l := numbers()
	for _, x := range l {
		for _, y := range l {
			a, b := intOf(x), intOf(y)
			if z := long.Add(a, b); z != intOf(new(big.Int).Add(x, y)) {
				t.Errorf("Add of %d and %d bytes", len(a.Mag), len(b.Mag))
			}
			if z := long.Sub(a, b); z != intOf(new(big.Int).Sub(x, y)) {
				t.Errorf("Sub of %d and %d bytes", len(a.Mag), len(b.Mag))
			}
			b.Neg = b.Mag != "" && !b.Neg
			if z := long.Add(a, b); z != intOf(new(big.Int).Sub(x, y)) {
				t.Errorf("Add of %d and %d bytes, the sign turned", len(a.Mag), len(b.Mag))
			}
		}
	}
}

func TestProducts(t *testing.T) {
	l := numbers()
	for i, x := range l {
		for _, k := range []int{0, 1, 2, 3, i, (i * 7) % len(l), (i + 11) % len(l)} {
			a, b := intOf(x), intOf(l[k])
			if z := long.Mul(a, b); z != intOf(new(big.Int).Mul(x, l[k])) {
				t.Errorf("Mul of %d and %d bytes", len(a.Mag), len(b.Mag))
			}
		}
	}
}

func TestOver(t *testing.T) {
	r := rand.New(rand.NewPCG(9, 10))
	few := []*big.Int{big.NewInt(1), big.NewInt(2), big.NewInt(12), big.NewInt(360), big.NewInt(1 << 40)}
	for _, n := range []int{100, 7999, 8000, 16000} {
		any := make([]byte, n)
		for i := range any {
			any[i] = byte(r.Uint32()) | 1
		}
		few = append(few, new(big.Int).SetBytes(any))
	}
	for i, x := range numbers() {
		if i > 3 && i%4 != 0 { // the library takes its time
			continue
		}
		for k, d := range few {
			if len(x.Bytes()) > 50000 && k%4 != 0 {
				continue
			}
			dens := []*big.Int{d, few[(i+k)%len(few)], d}[:1+(i+k)%3]
			over, under := new(big.Int).Set(x), big.NewInt(1)
			list := []api.Nat(nil)
			for j, y := range dens {
				under.Mul(under, y)
				list = append(list, api.Nat(y.Bytes()))
				if (i+j)%2 == 0 { // something in common
					over.Mul(over, y)
				}
			}
			want := new(big.Rat).SetFrac(over, under)
			if a := long.Over(intOf(over), list...); a != (api.Rat{Num: intOf(want.Num()), Den: api.Nat(want.Denom().Bytes())}) {
				t.Errorf("Over of %d bytes by %d numbers, case %d", len(over.Bytes()), len(dens), k)
			}
		}
	}
	if a := long.Over(intOf(big.NewInt(-5))); a != (api.Rat{Num: intOf(big.NewInt(-5)), Den: "\x01"}) {
		t.Errorf("Over of -5 by none: %v", a)
	}
}
