package pslg

import (
	"errors"
	"strconv"
	"strings"

	"gusset/api"
	"gusset/rat"
)

// maxCount is how many digits a count may have.
const maxCount = 3

// Why a text is refused.
var (
	errLong   = errors.New("the text is too long")
	errEnded  = errors.New("the text ends too early")
	errWord   = errors.New("another word must stand there")
	errCount  = errors.New("no count, or one that is too great")
	errNumber = errors.New("no number")
	errKind   = errors.New("no kind of a segment")
	errMore   = errors.New("something stands behind the end")
)

// refusal is why a text is refused, and how many of its tokens were read till then, the one that is refused among them.
type refusal struct {
	token int
	why   error
}

func (r *refusal) Error() string { return "token " + strconv.Itoa(r.token) + ": " + r.why.Error() }

func (r *refusal) Unwrap() error { return r.why }

// errnoOf is what is told of a text that is refused: OK, if it is not.
func errnoOf(err error) api.Errno {
	var refused *refusal
	switch {
	case !errors.As(err, &refused):
		return api.OK
	case errors.Is(refused, errLong):
		return api.ErrLimit
	}
	return api.ErrSyntax
}

// reader goes through a text's tokens, as far as none is refused.
type reader struct {
	tokens []string
	at     int   // how many of them were read
	err    error // the first refusal
}

// read is the plan of a text, or why it is refused.
func read(s string) (api.Plan, error) {
	if len(s) > api.MaxText {
		return api.Plan{}, &refusal{why: errLong}
	}
	r := &reader{tokens: strings.FieldsFunc(s, isBlank)}
	p := api.Plan{}
	r.word("pslg")
	p.Points = list(r, "v", api.MaxPoints, r.point)
	p.Segs = list(r, "s", api.MaxSegs, func() api.Seg { return r.segment(len(p.Points)) })
	p.Holes = list(r, "h", api.MaxHoles, r.point)
	p.F = r.poly("f")
	p.G = r.poly("g")
	r.word("end")
	if r.at < len(r.tokens) {
		r.refuse(errMore)
	}
	return p, r.err
}

// isBlank tells what tokens stand apart by.
func isBlank(c rune) bool { return c == ' ' || c == '\t' || c == '\n' }

// refuse keeps why the text is refused, unless it was already.
func (r *reader) refuse(why error) {
	if r.err == nil {
		r.err = &refusal{r.at, why}
	}
}

// next is the next token; an empty text, which is no token, if there is none or something was refused.
func (r *reader) next() string {
	if r.err != nil {
		return ""
	}
	if r.at == len(r.tokens) {
		r.refuse(errEnded)
		return ""
	}
	r.at++
	return r.tokens[r.at-1]
}

// word reads a token that must be this one.
func (r *reader) word(want string) {
	if r.next() != want {
		r.refuse(errWord)
	}
}

// list reads a list: its name, how many there are (0, once something was refused, so that no more is read), and each one.
func list[T any](r *reader, name string, most int, one func() T) []T {
	r.word(name)
	out := []T(nil)
	for range r.count(most) {
		out = append(out, one())
	}
	return out
}

// count reads a count that is at most that.
func (r *reader) count(most int) int {
	n, ok := countOf(r.next())
	if !ok || n > most {
		r.refuse(errCount)
		return 0
	}
	return n
}

// countOf is what a count's token says, and whether it is one.
func countOf(token string) (int, bool) {
	if len(token) < 1 || len(token) > maxCount || token[0] == '0' && len(token) > 1 {
		return 0, false
	}
	n := 0
	for _, c := range []byte(token) {
		if c < '0' || c > '9' {
			return 0, false
		}
		n = 10*n + int(c-'0')
	}
	return n, true
}

// number reads a number.
func (r *reader) number() api.Rat {
	a, e := rat.Parse(r.next())
	if e != api.OK {
		r.refuse(errNumber)
	}
	return a
}

// point reads X and Y.
func (r *reader) point() api.Point {
	x := r.number()
	y := r.number()
	return api.Point{X: x, Y: y}
}

// segment reads both ends, which are points' numbers, and the kind: what is Fixed is otherwise as what is not.
func (r *reader) segment(points int) api.Seg {
	a := r.count(points - 1)
	b := r.count(points - 1)
	s := api.Seg{A: a, B: b}
	switch r.next() {
	case "d":
		s.Fixed = true
		fallthrough
	case "n":
		return s
	}
	r.refuse(errKind)
	return s
}

// poly reads a polynomial: its name, and six numbers.
func (r *reader) poly(name string) api.Poly {
	r.word(name)
	f := api.Poly{}
	for i := range f {
		f[i] = r.number()
	}
	return f
}
