package hull_test

import (
	"math/big"
	"math/rand/v2"
	"slices"

	"gusset/api"
	"gusset/rat"
)

// What the answers are held against: the library's numbers, and other ways to tell how points lie than the program's.

func at(x, y int) api.Point { return api.Point{X: rat.Of(x), Y: rat.Of(y)} }

// ratOf is a number of the library as a Rat, bigOf the other way.
func ratOf(x *big.Rat) api.Rat {
	num := api.Int{Neg: x.Sign() < 0, Mag: api.Nat(x.Num().Bytes())}
	return api.Rat{Num: num, Den: api.Nat(x.Denom().Bytes())}
}

func bigOf(a api.Rat) *big.Rat {
	x := new(big.Rat).SetFrac(new(big.Int).SetBytes([]byte(a.Num.Mag)), new(big.Int).SetBytes([]byte(a.Den)))
	if a.Num.Neg {
		x.Neg(x)
	}
	return x
}

func times(x *big.Rat, y *big.Rat) *big.Rat { return new(big.Rat).Mul(x, y) }
func plus(x *big.Rat, y *big.Rat) *big.Rat  { return new(big.Rat).Add(x, y) }
func minus(x *big.Rat, y *big.Rat) *big.Rat { return new(big.Rat).Sub(x, y) }
func over(x *big.Rat, y *big.Rat) *big.Rat  { return new(big.Rat).Quo(x, y) }

func small(n int, d int) *big.Rat { return big.NewRat(int64(n), int64(d)) }

// place is a point of the library's numbers.
type place struct{ x, y *big.Rat }

func places(l []api.Point) []place {
	out := []place(nil)
	for _, p := range l {
		out = append(out, place{bigOf(p.X), bigOf(p.Y)})
	}
	return out
}

// far is how far two places are apart, squared.
func far(p, q place) *big.Rat {
	x, y := minus(p.x, q.x), minus(p.y, q.y)
	return plus(times(x, x), times(y, y))
}

// area is twice that of a polygon, by its corners one behind the other.
func area(corners ...place) *big.Rat {
	sum := new(big.Rat)
	for i, p := range corners {
		q := corners[(i+1)%len(corners)]
		sum = plus(sum, minus(times(p.x, q.y), times(q.x, p.y)))
	}
	return sum
}

// turn is how three places turn.
func turn(a, b, c place) int {
	return times(minus(b.x, a.x), minus(c.y, a.y)).Cmp(times(minus(b.y, a.y), minus(c.x, a.x)))
}

// circle is the centre of that through three places, and its radius, squared.
func circle(a, b, c place) (place, *big.Rat) {
	line := func(p, q place) (*big.Rat, *big.Rat, *big.Rat) { // of all places as far from p as from q
		x, y := minus(q.x, p.x), minus(q.y, p.y)
		return x, y, plus(times(x, over(plus(p.x, q.x), small(2, 1))), times(y, over(plus(p.y, q.y), small(2, 1))))
	}
	p1, q1, r1 := line(a, b)
	p2, q2, r2 := line(b, c)
	under := minus(times(p1, q2), times(p2, q1))
	centre := place{over(minus(times(r1, q2), times(r2, q1)), under), over(minus(times(p1, r2), times(p2, r1)), under)}
	return centre, far(centre, a)
}

// wantError tells what is wrong with points that may be asked: it holds each against each, and three by three.
func wantError(l []place) api.Errno {
	flat := true
	for i, p := range l {
		for j, q := range l[:i] {
			if far(p, q).Sign() == 0 {
				return api.ErrTwice
			}
			flat = flat && (j == 0 || turn(l[0], q, p) == 0)
		}
	}
	if flat {
		return api.ErrFlat
	}
	return api.OK
}

// wantRound wraps the points up: from each corner to the point that has all others on the left; of more in a line to the farthest.
func wantRound(l []place) []int {
	first := 0
	for i, p := range l {
		if order := p.x.Cmp(l[first].x); order < 0 || order == 0 && p.y.Cmp(l[first].y) < 0 {
			first = i
		}
	}
	out := []int(nil)
	for v := first; len(out) == 0 || v != first; {
		out = append(out, v)
		next := (v + 1) % len(l)
		for w, p := range l {
			way := turn(l[v], l[next], p)
			if w != v && (way < 0 || way == 0 && far(l[v], p).Cmp(far(l[v], l[next])) > 0) {
				next = w
			}
		}
		v = next
	}
	return out
}

// rim is the numbers of all points on the hull's edge.
func rim(l []place, round []int) []int {
	out := []int(nil)
	for v, p := range l {
		for i, a := range round {
			if turn(l[a], l[round[(i+1)%len(round)]], p) == 0 {
				out = append(out, v)
				break
			}
		}
	}
	return out
}

// apart tells whether the insides of two triangles that turn to the left have no point in common: an edge of one has the other on its right.
func apart(l []place, t, u api.Tri) bool {
	for range 2 {
		for k := range 3 {
			a, b := l[t[k]], l[t[(k+1)%3]]
			if !slices.ContainsFunc(u[:], func(v int) bool { return turn(a, b, l[v]) > 0 }) {
				return true
			}
		}
		t, u = u, t
	}
	return false
}

func random() *rand.Rand { return rand.New(rand.NewPCG(131, 132)) }

// fraction is a number of n bytes above the stroke and below it (less, if both can be cut), of either sign.
func fraction(r *rand.Rand, n int) *big.Rat {
	parts := [2][]byte{make([]byte, n), make([]byte, n)}
	for _, part := range parts {
		for i := range part {
			part[i] = byte(r.Uint32())
		}
		part[0] |= 0x80
	}
	x := new(big.Rat).SetFrac(new(big.Int).SetBytes(parts[0]), new(big.Int).SetBytes(parts[1]))
	if r.IntN(2) == 0 {
		x.Neg(x)
	}
	return x
}

// drawn is points turned, drawn larger or smaller, and moved, all by numbers of n bytes.
func drawn(r *rand.Rand, l []api.Point, n int) []api.Point {
	c, d, moveX, moveY := fraction(r, n), fraction(r, n), fraction(r, n), fraction(r, n)
	out := []api.Point(nil)
	for _, p := range l {
		x, y := bigOf(p.X), bigOf(p.Y)
		out = append(out, api.Point{X: ratOf(plus(minus(times(c, x), times(d, y)), moveX)), Y: ratOf(plus(plus(times(d, x), times(c, y)), moveY))})
	}
	return out
}

// scatter is n points, or less, of a grid of so many columns and rows, no two of them one.
func scatter(r *rand.Rand, n, columns, rows int) []api.Point {
	out := []api.Point(nil)
	for _, i := range r.Perm(columns * rows)[:min(n, columns*rows)] {
		out = append(out, at(i%columns, i/columns))
	}
	return out
}

// round is n points on a circle about (0, 0), in a random order.
func round(r *rand.Rand, n int) []api.Point {
	out := []api.Point(nil)
	for _, i := range r.Perm(n) {
		k := i - n/2
		out = append(out, api.Point{X: ratOf(small(1-k*k, 1+k*k)), Y: ratOf(small(2*k, 1+k*k))})
	}
	return out
}
