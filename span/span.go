// Package span holds what the layers from geom on ask of points and their numbers: whether they may be asked (chapters 5 and 7 of the document), and the ways from one to another as whole numbers over one denominator. Products of such ways are whole numbers, of which a sign is told, and a quotient made, without asking for lowest terms on the way.
package span

import (
	"gusset/api"
	"gusset/rat"
	"gusset/vec"
)

// maxBytes is how many bytes each Mag and Den of a number may have that is asked.
const maxBytes = 100

// Check tells the error of the first point that may not be asked.
func Check(l ...api.Point) api.Errno {
	for _, p := range l {
		if tooLong(p.X.Num.Mag, p.X.Den, p.Y.Num.Mag, p.Y.Den) {
			return api.ErrLimit
		}
		if e := vec.Check(p); e != api.OK {
			return e
		}
	}
	return api.OK
}

// CheckNumbers tells the error of the first number that may not be asked. It goes number by number: here a length goes ahead of that number's own faults alone, where Check lets it go ahead of those of the point's other number, too.
func CheckNumbers(l ...api.Rat) api.Errno {
	for _, a := range l {
		if tooLong(a.Num.Mag, a.Den) {
			return api.ErrLimit
		}
		if e := rat.Check(a); e != api.OK {
			return e
		}
	}
	return api.OK
}

// tooLong tells whether one of the Nats has more bytes than may be asked.
func tooLong(l ...api.Nat) bool {
	for _, n := range l {
		if len(n) > maxBytes {
			return true
		}
	}
	return false
}

// Span is the way from one point to another: X and Y of it, both divided by Unit, which is above 0.
type Span struct {
	X    Number
	Y    Number
	Unit Number
}

// Of is the way from a to b, which may be asked.
func Of(a api.Point, b api.Point) Span {
	x, unitX := less(b.X, a.X)
	y, unitY := less(b.Y, a.Y)
	if unitX.same(unitY) {
		return Span{x, y, unitX}
	}
	return Span{x.Times(unitY), y.Times(unitX), unitX.Times(unitY)}
}

// less is a less b, and by what it is to be divided.
func less(a api.Rat, b api.Rat) (Number, Number) {
	overA, overB := NumberOf(a.Num), NumberOf(b.Num)
	unitA := NumberOf(api.Int{Mag: a.Den})
	if a.Den == b.Den {
		return overA.Minus(overB), unitA
	}
	unitB := NumberOf(api.Int{Mag: b.Den})
	return overA.Times(unitB).Minus(overB.Times(unitA)), unitA.Times(unitB)
}

// Cross is vec.Cross of both, times both units.
func (u Span) Cross(v Span) Number { return u.X.Times(v.Y).Minus(u.Y.Times(v.X)) }

// Dot is vec.Dot of both, times both units.
func (u Span) Dot(v Span) Number { return u.X.Times(v.X).Plus(u.Y.Times(v.Y)) }

// Square is Dot of a way and itself.
func (u Span) Square() Number { return u.Dot(u) }

// Plus is a way, and another one behind it.
func (u Span) Plus(v Span) Span {
	return Span{u.X.Times(v.Unit).Plus(v.X.Times(u.Unit)), u.Y.Times(v.Unit).Plus(v.Y.Times(u.Unit)), u.Unit.Times(v.Unit)}
}

// Turned is a way turned to the left, by a right angle.
func (u Span) Turned() Span { return Span{Number{}.Minus(u.Y), u.X, u.Unit} }

// ToCentre is the way from a to the centre of the circle through a, b and c, which may be asked; there is none, if they lie in a line. Times twice the ways to b and to c it is their squares: two equations.
func ToCentre(a api.Point, b api.Point, c api.Point) (Span, bool) {
	u, v := Of(a, b), Of(a, c)
	area := u.Cross(v)
	if area.Sign() == 0 {
		return Span{}, false
	}
	squares := Span{X: u.Square().Times(v.Unit), Y: v.Square().Times(u.Unit)}
	x, y := squares.Cross(Span{X: u.Y, Y: v.Y}), Span{X: u.X, Y: v.X}.Cross(squares)
	if area.neg {
		x.neg, y.neg = !x.neg, !y.neg
	}
	return Span{x, y, area.Plus(area).Size().Times(u.Unit).Times(v.Unit)}, true
}

// Turn is how three points turn, which may be asked: 1 to the left, -1 to the right, 0 if they lie in a line.
func Turn(a api.Point, b api.Point, c api.Point) int { return Of(a, b).Cross(Of(a, c)).Sign() }

// Circle is where a fourth point lies, if three turn to the left, and all may be asked: 1 within their circle, 0 on it, -1 outside. If each point is lifted as high as its way from d is long, squared, a circle becomes a plane, and what lies within it lies below that plane.
func Circle(a api.Point, b api.Point, c api.Point, d api.Point) int {
	u, highU := lifted(Of(d, a))
	v, highV := lifted(Of(d, b))
	w, highW := lifted(Of(d, c))
	sum := highU.Times(v.Cross(w)).Plus(highV.Times(w.Cross(u))).Plus(highW.Times(u.Cross(v)))
	return sum.Sign()
}

// lifted is a way and its height, both times the unit's square, for a height is measured in those.
func lifted(u Span) (Span, Number) {
	return Span{X: u.X.Times(u.Unit), Y: u.Y.Times(u.Unit)}, u.Square()
}

// Order is that of two points which may be asked, by X, and by Y where that is the same.
func Order(a api.Point, b api.Point) int {
	x, _ := less(a.X, b.X)
	if sign := x.Sign(); sign != 0 {
		return sign
	}
	y, _ := less(a.Y, b.Y)
	return y.Sign()
}
