package vec_test

import (
	"math/big"
	"testing"

	"gusset/api"
	"gusset/rat"
	"gusset/vec"
)

// must is a call's answer that has no error.
func must[T any](t *testing.T) func(T, api.Errno) T {
	return func(answer T, e api.Errno) T {
		t.Helper()
		if e != api.OK {
			t.Fatalf("P4.4: error %d", e)
		}
		return answer
	}
}

func TestLaws(t *testing.T) {
	r := random()
	number, point := must[api.Rat](t), must[api.Point](t)
	for range 100 {
		n := 1 + r.IntN(20)
		p, q := place{fraction(r, n), fraction(r, n)}.point(), place{fraction(r, n), fraction(r, n)}.point()
		s, k := place{fraction(r, n), fraction(r, n)}.point(), ratOf(fraction(r, n))
		for i, product := range []func(api.Point, api.Point) (api.Rat, api.Errno){vec.Dot, vec.Cross} {
			sum := number(product(point(vec.Plus(p, s)), q))
			if sum != number(rat.Add(number(product(p, q)), number(product(s, q)))) {
				t.Errorf("P4.4: product %d of a sum", i)
			}
			if sum := number(product(q, point(vec.Plus(p, s)))); sum != number(rat.Add(number(product(q, p)), number(product(q, s)))) {
				t.Errorf("P4.4: product %d by a sum", i)
			}
			scaled := number(rat.Mul(k, number(product(p, q))))
			if number(product(point(vec.Scale(p, k)), q)) != scaled || number(product(p, point(vec.Scale(q, k)))) != scaled {
				t.Errorf("P4.4: product %d of a multiple", i)
			}
		}
		if number(vec.Cross(p, q)) != number(rat.Sub(rat.Of(0), number(vec.Cross(q, p)))) {
			t.Error("P4.4: Cross of turned arguments")
		}
		sign, _ := rat.Sign(number(vec.Norm2(p)))
		if zero := p == (api.Point{X: rat.Of(0), Y: rat.Of(0)}); zero != (sign == 0) || sign < 0 {
			t.Errorf("P4.4: sign of Norm2 of %v: %d", p, sign)
		}
	}
	if a := number(vec.Norm2(api.Point{X: rat.Of(0), Y: rat.Of(0)})); a != rat.Of(0) {
		t.Errorf("P4.4: Norm2 of 0, 0: %v", a)
	}
}

func TestDetLaws(t *testing.T) {
	r := random()
	number := must[api.Rat](t)
	for range 100 {
		n := 2 + r.IntN(3)
		m := matrix(r, n, 1+r.IntN(20))
		det := number(vec.Det(matrixOf(m)))
		turned := make([][]*big.Rat, n)
		for _, row := range m {
			for k, x := range row {
				turned[k] = append(turned[k], x)
			}
		}
		if number(vec.Det(matrixOf(turned))) != det {
			t.Errorf("P4.4: Det of %v transposed", m)
		}
		i, k := r.IntN(n), r.IntN(n-1)
		if k >= i {
			k++
		}
		m[i], m[k] = m[k], m[i]
		if number(vec.Det(matrixOf(m))) != number(rat.Sub(rat.Of(0), det)) {
			t.Errorf("P4.4: Det of %v, rows %d and %d changed", m, i, k)
		}
		m[i] = m[k]
		if number(vec.Det(matrixOf(m))) != rat.Of(0) {
			t.Errorf("P4.4: Det of %v with the same rows %d and %d", m, i, k)
		}
	}
}
