package emit

import (
	"strconv"
	"strings"

	"gusset/api"
)

// writer writes a file line by line into the builder that it embeds, and tells numbers as it is told to. (Numbers that may be have a text, so that no error comes of that.)
type writer struct {
	strings.Builder
	told func(api.Rat) (string, api.Errno)
}

// line writes tokens, a space between two, and a line feed behind them.
func (w *writer) line(tokens ...string) {
	for i, token := range tokens {
		if i > 0 {
			w.WriteByte(' ')
		}
		w.WriteString(token)
	}
	w.WriteByte('\n')
}

// numbers writes a line of numbers.
func (w *writer) numbers(l ...api.Rat) {
	tokens := make([]string, len(l))
	for i, a := range l {
		tokens[i], _ = w.told(a)
	}
	w.line(tokens...)
}

// counts writes a line of counts.
func (w *writer) counts(l ...int) {
	tokens := make([]string, len(l))
	for i, n := range l {
		tokens[i] = strconv.Itoa(n)
	}
	w.line(tokens...)
}
