package rat

import (
	"strings"

	"gusset/api"
	"gusset/whole"
)

// Parse reads a number.
func Parse(s string) (api.Rat, api.Errno) {
	over, under, parted := strings.Cut(s, "/")
	if !parted {
		under = "1"
	}
	n, e := whole.Parse(over)
	if e != api.OK {
		return api.Rat{}, e
	}
	d, e := whole.Parse(under)
	if e != api.OK || d.Neg || d.Mag == "" {
		return api.Rat{}, api.ErrSyntax
	}
	return Make(n, d)
}

// Print prints a number.
func Print(a api.Rat) (string, api.Errno) {
	if e := Check(a); e != api.OK {
		return "", e
	}
	text, _ := whole.Print(a.Num)
	if a.Den == one {
		return text, api.OK
	}
	under, _ := whole.Print(den(a))
	return text + "/" + under, api.OK
}

// Decimal rounds a number, and prints it.
func Decimal(a api.Rat, places int) (string, api.Errno) {
	if e := Check(a); e != api.OK {
		return "", e
	}
	if places < 0 || places > api.MaxPlaces {
		return "", api.ErrArg
	}
	n := rounded(times(a.Num, power(places)), den(a))
	text, _ := whole.Print(api.Int{Mag: n.Mag})
	text = strings.Repeat("0", max(places+1-len(text), 0)) + text
	point := len(text) - places
	if places > 0 {
		text = text[:point] + "." + text[point:]
	}
	if n.Neg {
		text = "-" + text
	}
	return text, api.OK
}

// power is 1 with that many noughts, of two halves, for a text may not have so many digits.
func power(places int) api.Int {
	half := places / 2
	low, _ := whole.Parse("1" + strings.Repeat("0", half))
	high, _ := whole.Parse("1" + strings.Repeat("0", places-half))
	return times(low, high)
}

// rounded is the whole number nearest to n divided by d, which is above 0; of two as near the even one.
func rounded(n api.Int, d api.Int) api.Int {
	down, rest, _ := whole.Div(n, d)
	switch order(plus(rest, rest), d) {
	case 1:
		return plus(down, whole.Of(1))
	case 0:
		if odd(down) {
			return plus(down, whole.Of(1))
		}
	}
	return down
}

// odd tells whether a whole number is so.
func odd(n api.Int) bool {
	return n.Mag != "" && n.Mag[len(n.Mag)-1]&1 == 1
}
