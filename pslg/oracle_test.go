package pslg_test

import (
	"math/big"
	"math/rand/v2"
	"regexp"
	"slices"
	"strconv"
	"strings"

	"gusset/api"
)

// What the answers are held against: the library's numbers, and patterns for tokens.

var (
	blanks      = regexp.MustCompile(`[ \t\n]+`)
	numberToken = regexp.MustCompile(`^(0|-?[1-9][0-9]{0,59})(/[1-9][0-9]{0,59})?$`)
	countToken  = regexp.MustCompile(`^(0|[1-9][0-9]{0,2})$`)
)

// ratOf is a number of the library as a Rat.
func ratOf(x *big.Rat) api.Rat {
	num := api.Int{Neg: x.Sign() < 0, Mag: api.Nat(x.Num().Bytes())}
	return api.Rat{Num: num, Den: api.Nat(x.Denom().Bytes())}
}

// tokensOf are the tokens of a text.
func tokensOf(s string) []string {
	return slices.DeleteFunc(blanks.Split(s, -1), func(token string) bool { return token == "" })
}

// wanted is the plan of a text, if it has one. What is asked for beyond the last token is empty, and so is none of those that are right.
func wanted(s string) (api.Plan, bool) {
	tokens, ok := tokensOf(s), true
	next := func() string {
		if len(tokens) == 0 {
			return ""
		}
		token := tokens[0]
		tokens = tokens[1:]
		return token
	}
	word := func(w string) { ok = next() == w && ok }
	count := func(below int) int {
		token := next()
		n, _ := strconv.Atoi(token)
		ok = ok && countToken.MatchString(token) && n < below
		if !ok {
			return 0
		}
		return n
	}
	number := func() api.Rat {
		token := next()
		ok = ok && numberToken.MatchString(token)
		if !ok {
			return api.Rat{}
		}
		x, _ := new(big.Rat).SetString(token)
		return ratOf(x)
	}
	p := api.Plan{}
	points := func(name string, below int) []api.Point {
		word(name)
		out := make([]api.Point, count(below))
		for i := range out {
			out[i].X = number()
			out[i].Y = number()
		}
		return out
	}
	word("pslg")
	p.Points = points("v", 41)
	word("s")
	p.Segs = make([]api.Seg, count(61))
	for i := range p.Segs {
		p.Segs[i].A = count(len(p.Points))
		p.Segs[i].B = count(len(p.Points))
		kind := next()
		p.Segs[i].Fixed = kind == "d"
		ok = ok && (kind == "d" || kind == "n")
	}
	p.Holes = points("h", 11)
	for i, f := range []*api.Poly{&p.F, &p.G} {
		word([]string{"f", "g"}[i])
		for k := range f {
			f[k] = number()
		}
	}
	word("end")
	return p, ok && len(tokens) == 0
}

// same tells whether two plans are one: lists may be nil where they are empty.
func same(p api.Plan, q api.Plan) bool {
	return slices.Equal(p.Points, q.Points) && slices.Equal(p.Segs, q.Segs) && slices.Equal(p.Holes, q.Holes) && p.F == q.F && p.G == q.G
}

// isNothing tells whether a plan is that of zero values.
func isNothing(p api.Plan) bool { return same(p, api.Plan{}) }

func random() *rand.Rand { return rand.New(rand.NewPCG(81, 82)) }

// digits are so many, the first one not 0.
func digits(r *rand.Rand, n int) string {
	out := strconv.Itoa(1 + r.IntN(9))
	for len(out) < n {
		out += strconv.Itoa(r.IntN(10))
	}
	return out
}

// anyNumber is a number's token, of n digits at most on either side.
func anyNumber(r *rand.Rand, n int) string {
	token := digits(r, 1+r.IntN(n))
	if r.IntN(3) == 0 {
		token = "-" + token
	}
	switch r.IntN(4) {
	case 0:
		return "0"
	case 1:
		return token
	}
	return token + "/" + digits(r, 1+r.IntN(n))
}

// textOf is a plan's text: so many points, segments and holes, whose numbers have n digits at most.
func textOf(r *rand.Rand, points, segs, holes, n int) string {
	lines := []string{"pslg", "v " + strconv.Itoa(points)}
	numbers := func(k int) string {
		out := make([]string, k)
		for i := range out {
			out[i] = anyNumber(r, n)
		}
		return strings.Join(out, " ")
	}
	for range points {
		lines = append(lines, numbers(2))
	}
	lines = append(lines, "s "+strconv.Itoa(segs))
	for range segs {
		kind := []string{"d", "n"}[r.IntN(2)]
		lines = append(lines, strconv.Itoa(r.IntN(points))+" "+strconv.Itoa(r.IntN(points))+" "+kind)
	}
	lines = append(lines, "h "+strconv.Itoa(holes))
	for range holes {
		lines = append(lines, numbers(2))
	}
	lines = append(lines, "f "+numbers(6), "g "+numbers(6), "end", "")
	return strings.Join(lines, "\n")
}
