package poly_test

import (
	"math/big"
	"math/rand/v2"

	"gusset/api"
)

// What the answers are held against: the library's numbers, and polynomials of any degree, which are integrated term by term.

// place is a point of the library's numbers.
type place struct{ x, y *big.Rat }

// ratOf is a number of the library as a Rat.
func ratOf(x *big.Rat) api.Rat {
	num := api.Int{Neg: x.Sign() < 0, Mag: api.Nat(x.Num().Bytes())}
	return api.Rat{Num: num, Den: api.Nat(x.Denom().Bytes())}
}

func (p place) point() api.Point { return api.Point{X: ratOf(p.x), Y: ratOf(p.y)} }

func (p place) String() string { return "(" + p.x.RatString() + ", " + p.y.RatString() + ")" }

func times(x *big.Rat, y *big.Rat) *big.Rat { return new(big.Rat).Mul(x, y) }
func plus(x *big.Rat, y *big.Rat) *big.Rat  { return new(big.Rat).Add(x, y) }
func minus(x *big.Rat, y *big.Rat) *big.Rat { return new(big.Rat).Sub(x, y) }

func small(n int, d int) *big.Rat { return big.NewRat(int64(n), int64(d)) }

// terms is a polynomial in s and t: the factor of s^i t^j by i and j.
type terms map[[2]int]*big.Rat

// linear is p + q s + r t.
func linear(p, q, r *big.Rat) terms { return terms{{0, 0}: p, {1, 0}: q, {0, 1}: r} }

func (f terms) plus(g terms) terms {
	out := terms{}
	for _, l := range []terms{f, g} {
		for k, x := range l {
			if out[k] == nil {
				out[k] = new(big.Rat)
			}
			out[k] = plus(out[k], x)
		}
	}
	return out
}

func (f terms) times(g terms) terms {
	out := terms{}
	for k, x := range f {
		for m, y := range g {
			out = out.plus(terms{{k[0] + m[0], k[1] + m[1]}: times(x, y)})
		}
	}
	return out
}

// integral is that over the triangle of s and t from 0 on, s + t up to 1: that of s^i t^j is i! j! / (i + j + 2)!.
func (f terms) integral() *big.Rat {
	sum := new(big.Rat)
	for k, x := range f {
		part := new(big.Rat).SetFrac(new(big.Int).Mul(factorial(k[0]), factorial(k[1])), factorial(k[0]+k[1]+2))
		sum = plus(sum, times(x, part))
	}
	return sum
}

func factorial(n int) *big.Int { return new(big.Int).MulRange(1, int64(n)) }

// coefs are the six numbers of a Poly.
type coefs [6]*big.Rat

func (c coefs) poly() api.Poly {
	f := api.Poly{}
	for i, x := range c {
		f[i] = ratOf(x)
	}
	return f
}

// of is the polynomial with x and y put in.
func (c coefs) of(x terms, y terms) terms {
	one := terms{{0, 0}: small(1, 1)}
	out := terms{}
	for i, part := range []terms{one, x, y, x.times(x), x.times(y), y.times(y)} {
		out = out.plus(part.times(terms{{0, 0}: c[i]}))
	}
	return out
}

// answers are what the calls are to tell of a triangle.
type answers struct {
	integral api.Rat
	loads    [3]api.Rat
	square   api.Rat
}

// wanted goes by a way of the triangle of s and t onto that of a, b, c; false, if it is flat.
func wanted(c coefs, l [3]place) (answers, bool) {
	x := linear(l[0].x, minus(l[1].x, l[0].x), minus(l[2].x, l[0].x))
	y := linear(l[0].y, minus(l[1].y, l[0].y), minus(l[2].y, l[0].y))
	right, up := [2]int{1, 0}, [2]int{0, 1}
	scale := minus(times(x[right], y[up]), times(x[up], y[right]))
	if scale.Sign() == 0 {
		return answers{}, false
	}
	scale.Abs(scale)
	f := c.of(x, y)
	whole := func(g terms) api.Rat { return ratOf(times(scale, g.integral())) }
	out := answers{integral: whole(f), square: whole(f.times(f))}
	hats := [3]terms{linear(small(1, 1), small(-1, 1), small(-1, 1)), linear(small(0, 1), small(1, 1), small(0, 1)), linear(small(0, 1), small(0, 1), small(1, 1))}
	for i, hat := range hats {
		out.loads[i] = whole(f.times(hat))
	}
	return out, true
}

// wantEval is what a polynomial is at a place.
func wantEval(c coefs, p place) api.Rat {
	return ratOf(c.of(terms{{0, 0}: p.x}, terms{{0, 0}: p.y})[[2]int{0, 0}])
}

func random() *rand.Rand { return rand.New(rand.NewPCG(71, 72)) }

// fraction is a number of n bytes above the stroke and below it (less, if both can be cut), of either sign.
func fraction(r *rand.Rand, n int) *big.Rat {
	parts := [2][]byte{make([]byte, n), make([]byte, n)}
	for _, part := range parts {
		for i := range part {
			part[i] = byte(r.Uint32())
		}
		part[0] |= 0x80
	}
	x := new(big.Rat).SetFrac(new(big.Int).SetBytes(parts[0]), new(big.Int).SetBytes(parts[1]))
	if r.IntN(2) == 0 {
		x.Neg(x)
	}
	return x
}

// anyPlace is one of two such numbers.
func anyPlace(r *rand.Rand, n int) place { return place{fraction(r, n), fraction(r, n)} }

// anyCoefs are six such numbers; some of them are 0.
func anyCoefs(r *rand.Rand, n int) coefs {
	out := coefs{}
	for i := range out {
		out[i] = new(big.Rat)
		if r.IntN(5) != 0 {
			out[i] = fraction(r, n)
		}
	}
	return out
}

// smallCoefs are six whole numbers.
func smallCoefs(l ...int) coefs {
	out := coefs{}
	for i := range out {
		out[i] = small(l[i], 1)
	}
	return out
}
