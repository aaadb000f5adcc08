package emit

import (
	"strings"

	"gusset/api"
	"gusset/rat"
	"gusset/whole"
)

// maxDigits is how many digits a number may have on a side of its stroke. As whole numbers these are not too long for package whole, whose errors are therefore none here.
const maxDigits = 60000

// quotient is a number as it stands in a file: its digits above the stroke, and below it.
type quotient struct {
	neg   bool
	over  string
	under string
}

// quotientOf is a number's token, if it is one.
func quotientOf(token string) (quotient, bool) {
	over, under, parted := strings.Cut(token, "/")
	if !parted {
		under = "1"
	}
	over, neg := strings.CutPrefix(over, "-")
	ok := isNatural(over) && isNatural(under) && under != "0" && !(neg && over == "0")
	return quotient{neg, over, under}, ok
}

// isNatural tells whether a text is that of a natural number, of however many digits.
func isNatural(s string) bool {
	if len(s) < 1 || s[0] == '0' && len(s) > 1 {
		return false
	}
	for _, c := range []byte(s) {
		if c < '0' || c > '9' {
			return false
		}
	}
	return true
}

// value is the number, or ErrLimit. What is too long for rat.Make may be short enough in its lowest terms.
func (q quotient) value(ladder *powers) (api.Rat, api.Errno) {
	if len(q.over) > maxDigits || len(q.under) > maxDigits {
		return api.Rat{}, api.ErrLimit
	}
	n, d := ladder.number(q.over), ladder.number(q.under)
	n.Neg = q.neg
	a, e := rat.Make(n, d)
	if e != api.ErrLimit {
		return a, e
	}
	common, _ := whole.Gcd(n, d)
	n, _, _ = whole.Div(n, common)
	d, _, _ = whole.Div(d, common)
	return rat.Make(n, d)
}

// piece is how many digits a number has at most that is read at once, which whole.Parse lets it have; half of it is the first power's.
const piece = api.MaxDigits

// powers are 10^(piece/2), its square, the square's square and so on, as far as they were asked for.
type powers struct{ list []api.Int }

// at is the power number k.
func (l *powers) at(k int) api.Int {
	for len(l.list) <= k {
		if len(l.list) == 0 {
			first, _ := whole.Parse("1" + strings.Repeat("0", piece/2))
			l.list = append(l.list, first)
			continue
		}
		last := l.list[len(l.list)-1]
		square, _ := whole.Mul(last, last)
		l.list = append(l.list, square)
	}
	return l.list[k]
}

// number is that of digits, with noughts ahead or not: parting them in two by a power again and again takes far fewer steps than piece by piece.
func (l *powers) number(digits string) api.Int {
	if len(digits) <= piece {
		digits = strings.TrimLeft(digits[:len(digits)-1], "0") + digits[len(digits)-1:]
		n, _ := whole.Parse(digits)
		return n
	}
	k, low := 0, piece/2
	for 2*low < len(digits) {
		k, low = k+1, 2*low
	}
	high := l.number(digits[:len(digits)-low])
	high, _ = whole.Mul(high, l.at(k))
	n, _ := whole.Add(high, l.number(digits[len(digits)-low:]))
	return n
}
