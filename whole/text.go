package whole

import (
	"strconv"
	"strings"

	"gusset/api"
	"gusset/limb"
)

// limbDigits is how many decimal digits fit a limb, whatever they are; limbPower is 1 with as many noughts.
const (
	limbDigits = 19
	limbPower  = 10_000_000_000_000_000_000
)

// Parse reads a number. A sign is taken off, and what is left is read as without one; that of -0 stays on, so that it is no number.
func Parse(s string) (api.Int, api.Errno) {
	n := number{}
	switch {
	case strings.HasPrefix(s, "-") && s != "-0":
		n.neg = true
		s = s[1:]
		fallthrough
	default:
		if !isNatural(s) {
			return api.Int{}, api.ErrSyntax
		}
		n.row = rowOf(s)
	}
	return tell(n), api.OK
}

// isNatural tells whether a text is that of a natural number, of few enough digits.
func isNatural(s string) bool {
	if len(s) < 1 || len(s) > api.MaxDigits || s[0] == '0' && len(s) > 1 {
		return false
	}
	for _, c := range []byte(s) {
		if c < '0' || c > '9' {
			return false
		}
	}
	return true
}

// rowOf is the limbs of a natural number's text, taken in by as many digits as fit a limb.
func rowOf(s string) []uint64 {
	row := []uint64(nil)
	for len(s) > 0 {
		piece := s[:min(limbDigits, len(s))]
		s = s[len(piece):]
		value, power := uint64(0), uint64(1)
		for _, c := range []byte(piece) {
			value = 10*value + uint64(c-'0')
			power *= 10
		}
		row, _ = limb.Mul(row, []uint64{power})
		row, _ = limb.Add(row, []uint64{value})
	}
	return row
}

// Print prints a number.
func Print(a api.Int) (string, api.Errno) {
	n, e := read(a)
	if e != api.OK {
		return "", e
	}
	var out strings.Builder
	writeDigits(&out, n[0].row, powersUpTo(n[0].row))
	text := strings.TrimLeft(out.String(), "0")
	switch {
	case text == "":
		text = "0"
	case a.Neg:
		text = "-" + text
	}
	return text, api.OK
}

// powersUpTo is limbPower, its square, the square's square and so on, as long as they have no more limbs than row. So row is less than the last one's square.
func powersUpTo(row []uint64) [][]uint64 {
	powers := [][]uint64(nil)
	for power := []uint64{limbPower}; len(power) <= len(row); power, _ = limb.Mul(power, power) {
		powers = append(powers, power)
	}
	return powers
}

// writeDigits writes a row that is less than the last power's square, with noughts ahead: parting it in two by that power again and again takes far fewer steps than limb by limb.
func writeDigits(out *strings.Builder, row []uint64, powers [][]uint64) {
	if len(powers) == 0 {
		value := uint64(0)
		for _, x := range row { // one at most
			value = x
		}
		digits := strconv.FormatUint(value, 10)
		out.WriteString(strings.Repeat("0", limbDigits-len(digits)))
		out.WriteString(digits)
		return
	}
	last := len(powers) - 1
	high, low, _ := limb.DivMod(row, powers[last])
	writeDigits(out, high, powers[:last:last])
	writeDigits(out, low, powers[:last:last])
}
