package adapt_test

import (
	"math/big"
	"slices"
	"testing"

	"gusset/adapt"
	"gusset/api"
	"gusset/rat"
)

// holdMark asks about numbers that may be, of which none gets too long.
func holdMark(t *testing.T, l []api.Rat, theta api.Rat) []int {
	t.Helper()
	out, e := adapt.Mark(l, theta)
	if want := wantMark(l, theta); !slices.Equal(out, want) || e != api.OK {
		t.Fatalf("P22.1: Mark of %d numbers with %v: %v, error %d, not %v", len(l), bigOf(theta), out, e, want)
	}
	return out
}

func TestMarkExamples(t *testing.T) {
	for i, c := range []struct {
		l     []api.Rat
		theta api.Rat
		want  []int
	}{
		{ints(1, 5, 2, 5), part(1, 2), []int{1, 3}}, {ints(1, 5, 2, 5), part(1, 3), []int{1}},
		{ints(1, 5, 2, 5), part(5, 13), []int{1}}, {ints(1, 5, 2, 5), part(51, 130), []int{1, 3}}, // just enough, and a little more
		{ints(1, 5, 2, 5), part(10, 13), []int{1, 3}}, {ints(1, 5, 2, 5), part(12, 13), []int{1, 2, 3}}, {ints(1, 5, 2, 5), rat.Of(1), []int{0, 1, 2, 3}},
		{ints(3, 3, 3, 3), part(1, 2), []int{0, 1}}, {ints(3, 3, 3, 3), part(1, 100), []int{0}}, {ints(0, 3, 0, 3), rat.Of(1), []int{1, 3}},
		{nil, rat.Of(1), nil}, {ints(0), part(1, 2), nil}, {ints(0, 0, 0), rat.Of(1), nil}, {ints(7), part(1, 9), []int{0}},
		{[]api.Rat{part(1, 3), part(1, 2), part(1, 6)}, part(1, 2), []int{1}}, {[]api.Rat{part(1, 3), part(1, 2), part(1, 6)}, part(5, 6), []int{0, 1}},
	} {
		if l := holdMark(t, c.l, c.theta); !slices.Equal(l, c.want) {
			t.Errorf("P22.1: case %d: %v", i, l)
		}
	}
}

// TestMarkMany asks about many numbers, most of which are there often, with shares that are just reached, and with others.
func TestMarkMany(t *testing.T) {
	r := random()
	for i := range 300 {
		l := []api.Rat(nil)
		for range r.IntN(40) {
			l = append(l, part(r.IntN(6), 1+r.IntN(1+i/60)))
		}
		d := 1 + r.IntN(20)
		holdMark(t, l, part(1+r.IntN(d), d))
		sum, some := new(big.Rat), new(big.Rat)
		for k, a := range l {
			sum = plus(sum, bigOf(a))
			if k%2 == 0 {
				some = plus(some, bigOf(a))
			}
		}
		if some.Sign() > 0 {
			holdMark(t, l, ratOf(over(some, sum)))
		}
	}
	for i := range 20 {
		holdMark(t, values(r, i, 1+i), ratOf(over(small(1, 1), plus(small(1, 1), fraction(r, 1+i)))))
	}
}

// TestMarkWithinR7 asks about 60 numbers of 12 bytes, with a share of 3: there is always an answer.
func TestMarkWithinR7(t *testing.T) {
	r := random()
	for range 5 {
		theta := over(small(1, 1), plus(small(1, 1), new(big.Rat).SetFrac(natural(r, 2), natural(r, 2))))
		if a := ratOf(theta); len(a.Num.Mag) > 3 || len(a.Den) > 3 {
			t.Fatalf("%v", theta)
		}
		holdMark(t, values(r, 60, 12), ratOf(theta))
	}
}

// TestMarkLong asks about numbers that are as long as they may be: if their sum can be told in 8000 bytes, it is told which there are, else not.
func TestMarkLong(t *testing.T) {
	r := random()
	holdMark(t, []api.Rat{far(8000)}, long(8000))
	holdMark(t, []api.Rat{long(8000), rat.Of(0), long(8000)}, part(1, 2))
	theta := ratOf(new(big.Rat).SetFrac(big.NewInt(1), natural(r, 8000)))
	holdMark(t, values(r, 3, 900), theta)
	under, l := natural(r, 2000), []api.Rat(nil)
	for i := range 60 {
		l = append(l, ratOf(new(big.Rat).SetFrac(new(big.Int).Rsh(natural(r, 2000), uint(i)), under)))
	}
	holdMark(t, l, part(1, 2))
	for _, l := range [][]api.Rat{values(r, 5, 2000), {far(8000), part(1, 257)}, {far(5000), long(5000)}} {
		if out, e := adapt.Mark(l, part(1, 2)); len(out) != 0 || e != api.ErrLimit {
			t.Errorf("R7: %v, error %d", out, e)
		}
	}
}

// TestMarkFull asks about as many numbers as there may be.
func TestMarkFull(t *testing.T) {
	l := []api.Rat(nil)
	for i := range 900 {
		l = append(l, part(i*i%541, 1+i%3))
	}
	holdMark(t, l, part(2, 3))
	holdMark(t, l, rat.Of(1))
}

// TestMarkAll holds that with theta 1 all are marked that are above 0.
func TestMarkAll(t *testing.T) {
	r := random()
	for i := range 20 {
		l, want := values(r, 12, 1+i/4), []int(nil)
		for k := range l {
			if r.IntN(3) == 0 {
				l[k] = rat.Of(0)
				continue
			}
			want = append(want, k)
		}
		if out, e := adapt.Mark(l, rat.Of(1)); !slices.Equal(out, want) || e != api.OK {
			t.Errorf("P22.4: %v, error %d, not %v", out, e, want)
		}
	}
}

// TestWrongMarks asks with numbers that may not be, and with shares that may not be: the first one's error is told, ahead of what is below 0 or too great.
func TestWrongMarks(t *testing.T) {
	refused := func(name string, l []api.Rat, theta api.Rat, want api.Errno) {
		t.Helper()
		if out, e := adapt.Mark(l, theta); len(out) != 0 || e != want {
			t.Errorf("P22.1: %s: %v, error %d, not %d", name, out, e, want)
		}
	}
	all := append(wrongs(), long(8001), far(8001))
	for _, w := range all {
		refused("a wrong share", ints(1, 2), w, rat.Check(w))
		refused("a wrong share of none", nil, w, rat.Check(w))
		refused("a wrong share, and a number below 0", ints(1, -2), w, rat.Check(w))
		for _, other := range all {
			refused("a wrong number and a wrong share", []api.Rat{rat.Of(1), w}, other, rat.Check(w))
			for place := range 9 {
				l := ints(1, -1, 1)
				l[max(place%3, place/3)] = other
				l[min(place%3, place/3)] = w
				refused("wrong numbers", l, rat.Of(7), rat.Check(w))
			}
		}
	}
	for _, theta := range []api.Rat{rat.Of(0), rat.Of(-1), rat.Of(2), part(-1, 2), part(101, 100)} {
		refused("a share that is none", ints(1, 2), theta, api.ErrArg)
		refused("a share that is none, of none", nil, theta, api.ErrArg)
		refused("a share that is none, of noughts", ints(0, 0), theta, api.ErrArg)
	}
	refused("a number below 0", ints(1, 2, -1), part(1, 2), api.ErrArg)
	refused("a small number below 0", []api.Rat{part(-1, 1000), rat.Of(5)}, rat.Of(1), api.ErrArg)
	refused("a number below 0 alone", ints(-3), rat.Of(1), api.ErrArg)
	refused("901 numbers", slices.Repeat(ints(1), 901), part(1, 2), api.ErrLimit)
	refused("901 wrong numbers", make([]api.Rat, 901), api.Rat{}, api.ErrLimit)
	refused("900 wrong numbers", make([]api.Rat, 900), part(1, 2), api.ErrArg)
	refused("numbers too long together, one of them below 0", []api.Rat{far(5000), long(5000), rat.Of(-1)}, part(1, 2), api.ErrArg)
}

// TestMarkMemory holds that nothing handed in is changed, that what is answered shares no memory with it, and that the same is answered again.
func TestMarkMemory(t *testing.T) {
	l := ints(3, 1, 2, 3, 9, 9)
	given := slices.Clone(l)
	for range 3 {
		out := holdMark(t, l[:4], part(3, 4))
		clear(out[:cap(out)])
		if !slices.Equal(l, given) {
			t.Fatal("R5: what was handed in is changed")
		}
	}
}
