package cdt

import (
	"math/big"
	"math/rand/v2"
	"testing"

	"gusset/api"
	"gusset/span"
	"gusset/weave"
)

// TestFarther holds which of two points lies farther from a rail against the library's numbers: what is turned hangs on it only in rare webs, where it keeps edges from being turned to and fro.
func TestFarther(t *testing.T) {
	r := rand.New(rand.NewPCG(145, 146))
	ratOf := func(x *big.Rat) api.Rat {
		return api.Rat{Num: api.Int{Neg: x.Sign() < 0, Mag: api.Nat(x.Num().Bytes())}, Den: api.Nat(x.Denom().Bytes())}
	}
	ties := 0
	for range 500 {
		l, numbers := []api.Point(nil), []*big.Rat(nil)
		for range 4 {
			x, y := big.NewRat(int64(r.IntN(5)-2), int64(1+r.IntN(3))), big.NewRat(int64(r.IntN(5)-2), int64(1+r.IntN(3)))
			l, numbers = append(l, api.Point{X: ratOf(x), Y: ratOf(y)}), append(numbers, x, y)
		}
		way := func(v, k int) *big.Rat { return new(big.Rat).Sub(numbers[2*v+k], numbers[k]) }
		far := func(v int) *big.Rat {
			cross := new(big.Rat).Sub(new(big.Rat).Mul(way(1, 0), way(v, 1)), new(big.Rat).Mul(way(1, 1), way(v, 0)))
			return cross.Abs(cross)
		}
		want := far(2).Cmp(far(3))
		if want == 0 {
			ties++
			want = numbers[4].Cmp(numbers[6])
		}
		if want == 0 {
			want = numbers[5].Cmp(numbers[7])
		}
		ride := rail{weave.Of(api.Mesh{Points: l}), 0, 1, span.Of(l[0], l[1]), map[int]height{}}
		if got := ride.farther(2, 3); got != (want > 0) {
			t.Errorf("%v: %v, but %d", numbers, got, want)
		}
		if far := ride.farthest(3, 0, 2, 1); want > 0 && far == 3 || want < 0 && far == 2 {
			t.Errorf("%v: the farthest is %d", numbers, far)
		}
	}
	if ties < 20 {
		t.Errorf("%d that are as far", ties)
	}
}
