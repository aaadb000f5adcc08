package emit

import (
	"gusset/api"
	"gusset/mesh"
)

// How much a file may have: bytes, digits of a count, segments.
const (
	maxBytes = 1 << 24
	maxCount = 4
	maxSegs  = 1300
)

// Read reads an exact file. Its numbers are only looked at in the end, for whatever is no exact file is told ahead of one that is too long.
func Read(s string) (api.Mesh, []api.Rat, api.Errno) {
	if len(s) > maxBytes {
		return api.Mesh{}, nil, api.ErrLimit
	}
	r := &reader{text: s}
	m := api.Mesh{}
	r.word("mesh")
	points := list(r, "v", api.MaxVerts, func() [3]quotient { return [3]quotient{r.number(), r.number(), r.number()} })
	m.Tris = list(r, "t", api.MaxTris, func() api.Tri { return r.corners(len(points)) })
	m.Segs = list(r, "s", maxSegs, func() api.Seg { return r.segment(len(points)) })
	r.word("end")
	if r.wrong || r.next() != "" {
		return api.Mesh{}, nil, api.ErrSyntax
	}
	places, u, e := valued(points)
	if e != api.OK {
		return api.Mesh{}, nil, e
	}
	m.Points = places
	if e := mesh.Check(m); e != api.OK {
		return api.Mesh{}, nil, e
	}
	return m, u, api.OK
}

// valued are the points, and the values at them, that the quotients are; or the error of the first number that may not be.
func valued(l [][3]quotient) ([]api.Point, []api.Rat, api.Errno) {
	points, values, ladder := []api.Point(nil), []api.Rat(nil), &powers{}
	for _, told := range l {
		n := [3]api.Rat{}
		for i, q := range told {
			a, e := q.value(ladder)
			if e != api.OK {
				return nil, nil, e
			}
			n[i] = a
		}
		points = append(points, api.Point{X: n[0], Y: n[1]})
		values = append(values, n[2])
	}
	return points, values, api.OK
}

// reader goes through a text's tokens, as far as none is wrong.
type reader struct {
	text  string
	at    int // where the next token is looked for
	wrong bool
}

// isBlank tells what tokens stand apart by.
func isBlank(c byte) bool { return c == ' ' || c == '\t' || c == '\n' }

// next is the next token; an empty text, which is no token, if there is none.
func (r *reader) next() string {
	for r.at < len(r.text) && isBlank(r.text[r.at]) {
		r.at++
	}
	from := r.at
	for r.at < len(r.text) && !isBlank(r.text[r.at]) {
		r.at++
	}
	return r.text[from:r.at]
}

// word reads a token that must be this one.
func (r *reader) word(want string) {
	if r.next() != want {
		r.wrong = true
	}
}

// list reads a list: its name, how many there are, and each one.
func list[T any](r *reader, name string, most int, one func() T) []T {
	r.word(name)
	out := []T(nil)
	for range r.count(most) {
		if r.wrong {
			break
		}
		out = append(out, one())
	}
	return out
}

// count reads a count that is at most that.
func (r *reader) count(most int) int {
	token := r.next()
	if len(token) > maxCount || !isNatural(token) {
		r.wrong = true
		return 0
	}
	n := 0
	for _, c := range []byte(token) {
		n = 10*n + int(c-'0')
	}
	if n > most {
		r.wrong = true
	}
	return n
}

// number reads a number.
func (r *reader) number() quotient {
	q, ok := quotientOf(r.next())
	if !ok {
		r.wrong = true
	}
	return q
}

// corners reads a triangle over so many points.
func (r *reader) corners(points int) api.Tri {
	t := api.Tri{}
	for k := range t {
		t[k] = r.count(points - 1)
	}
	return t
}

// segment reads a segment between two of so many points.
func (r *reader) segment(points int) api.Seg {
	a := r.count(points - 1)
	b := r.count(points - 1)
	kind := r.next()
	if kind != "d" && kind != "n" {
		r.wrong = true
	}
	return api.Seg{A: a, B: b, Fixed: kind == "d"}
}
