// Package wording: words that sheets, files and scripts (layers 21 to 23) have in common.
package wording

import (
	"strings"

	"tabard/api"
	"tabard/formula"
	"tabard/locale"
	"tabard/shortest"
)

const hex = "0123456789abcdef"

// Quote writes any text in one line.
func Quote(s string) string {
	var b strings.Builder
	b.WriteByte('"')
	for i := range len(s) {
		switch c := s[i]; {
		case c == '"' || c == '\\':
			b.WriteByte('\\')
			b.WriteByte(c)
		case ' ' <= c && c <= '~':
			b.WriteByte(c)
		default:
			b.WriteString(`\x`)
			b.WriteByte(hex[c>>4])
			b.WriteByte(hex[c&15])
		}
	}
	b.WriteByte('"')
	return b.String()
}

// Value writes a value with its kind; an empty one is nothing but its kind.
func Value(v api.Value, numbers *shortest.Writer) string {
	switch v.Kind {
	case api.Number:
		return "number " + numbers.Print(v.Bits)
	case api.Bool:
		if v.Is {
			return "bool TRUE"
		}
		return "bool FALSE"
	case api.Text:
		return "text " + Quote(v.Text)
	case api.Fail:
		return "error " + formula.Fail(v.Fail)
	}
	return "empty"
}

// Fail is the number of the error with that name, or 0.
func Fail(name string) int {
	for n := 1; formula.Fail(n) != ""; n++ {
		if formula.Fail(n) == name {
			return n
		}
	}
	return 0
}

// English reads and writes formulas as files have them, and as the bounds of contents ask for them.
func English() *formula.Reader {
	l, _ := locale.Find("en")
	return formula.New(l)
}
