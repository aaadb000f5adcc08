package element_test

import (
	"math/big"
	"math/rand/v2"
	"strings"

	"gusset/api"
	"gusset/rat"
	"gusset/whole"
)

// What the answers are held against: the library's numbers, and the chapter's words one by one.

func at(x, y int) api.Point { return api.Point{X: rat.Of(x), Y: rat.Of(y)} }

// ratOf is a number of the library as a Rat.
func ratOf(x *big.Rat) api.Rat {
	num := api.Int{Neg: x.Sign() < 0, Mag: api.Nat(x.Num().Bytes())}
	return api.Rat{Num: num, Den: api.Nat(x.Denom().Bytes())}
}

func times(x *big.Rat, y *big.Rat) *big.Rat { return new(big.Rat).Mul(x, y) }
func plus(x *big.Rat, y *big.Rat) *big.Rat  { return new(big.Rat).Add(x, y) }
func minus(x *big.Rat, y *big.Rat) *big.Rat { return new(big.Rat).Sub(x, y) }
func over(x *big.Rat, y *big.Rat) *big.Rat  { return new(big.Rat).Quo(x, y) }

func small(n int, d int) *big.Rat { return big.NewRat(int64(n), int64(d)) }

// place is a point in the library's numbers.
type place struct{ x, y *big.Rat }

func (p place) point() api.Point { return api.Point{X: ratOf(p.x), Y: ratOf(p.y)} }

func (p place) less(q place) place { return place{minus(p.x, q.x), minus(p.y, q.y)} }

func (p place) cross(q place) *big.Rat { return minus(times(p.x, q.y), times(p.y, q.x)) }
func (p place) dot(q place) *big.Rat   { return plus(times(p.x, q.x), times(p.y, q.y)) }

// triangle is three of them, values what a function is there.
type triangle [3]place
type values [3]*big.Rat

func (v values) rats() [3]api.Rat { return [3]api.Rat{ratOf(v[0]), ratOf(v[1]), ratOf(v[2])} }

// area2 is twice the area, with the sign of the turn.
func (t triangle) area2() *big.Rat { return t[1].less(t[0]).cross(t[2].less(t[0])) }

// slope solves the equations that a linear function's slope has: times the way from a to b it is what the function grows there, and so from a to c.
func (t triangle) slope(v values) place {
	b, c := t[1].less(t[0]), t[2].less(t[0])
	growB, growC, under := minus(v[1], v[0]), minus(v[2], v[0]), t.area2()
	x := over(minus(times(growB, c.y), times(growC, b.y)), under)
	y := over(minus(times(b.x, growC), times(c.x, growB)), under)
	return place{x, y}
}

// stiff goes by the hats.
func (t triangle) stiff() [3][3]api.Rat {
	hats := [3]place{}
	for i := range hats {
		v := values{new(big.Rat), new(big.Rat), new(big.Rat)}
		v[i] = small(1, 1)
		hats[i] = t.slope(v)
	}
	area := times(new(big.Rat).Abs(t.area2()), small(1, 2))
	out := [3][3]api.Rat{}
	for i := range out {
		for k := range out {
			out[i][k] = ratOf(times(area, hats[i].dot(hats[k])))
		}
	}
	return out
}

func random() *rand.Rand { return rand.New(rand.NewPCG(173, 174)) }

// fraction is a number of n bytes above the stroke and below it (less, if both can be cut), of either sign.
func fraction(r *rand.Rand, n int) *big.Rat {
	parts := [2][]byte{make([]byte, n), make([]byte, n)}
	for _, part := range parts {
		for i := range part {
			part[i] = byte(r.Uint32())
		}
		part[0] |= 0x80
	}
	x := new(big.Rat).SetFrac(new(big.Int).SetBytes(parts[0]), new(big.Int).SetBytes(parts[1]))
	if r.IntN(2) == 0 {
		x.Neg(x)
	}
	return x
}

func anyPlace(r *rand.Rand, n int) place { return place{fraction(r, n), fraction(r, n)} }

func anyTriangle(r *rand.Rand, n int) triangle {
	return triangle{anyPlace(r, n), anyPlace(r, n), anyPlace(r, n)}
}

func anyValues(r *rand.Rand, n int) values {
	return values{fraction(r, n), fraction(r, n), fraction(r, n)}
}

func nat(n int) api.Nat { return api.Nat(strings.Repeat("\x01", n)) }

// wrongs are numbers that are not in their one form, longs(n) such as have more than n bytes: of these some are wrong, too.
func wrongs() []api.Rat {
	one := whole.Of(1)
	return []api.Rat{
		{}, {Num: one}, {Num: api.Int{Neg: true}, Den: "\x01"}, {Num: whole.Of(2), Den: "\x04"}, {Den: "\x02"},
		{Num: one, Den: "\x00\x01"}, {Num: api.Int{Mag: "\x00\x01"}, Den: "\x01"}, {Num: api.Int{Mag: nat(100)}, Den: nat(100)},
	}
}

func longs(n int) []api.Rat {
	one := whole.Of(1)
	return []api.Rat{
		{Num: api.Int{Mag: nat(n + 1)}, Den: "\x01"}, {Num: one, Den: nat(n + 1)}, {Num: api.Int{Neg: true, Mag: nat(8001)}, Den: "\x01"},
		{Num: api.Int{Mag: nat(n + 1)}, Den: nat(n + 1)}, {Num: api.Int{Mag: "\x00" + nat(n)}, Den: "\x01"}, {Num: api.Int{Mag: nat(n + 1)}},
	}
}
