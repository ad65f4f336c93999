// Package wording: how values are written in files and by scripts, for layers 22 and 23.
package wording

import (
	"strings"

	"tabard/api"
	"tabard/formula"
	"tabard/shortest"
)

const hex = "0123456789abcdef"

// Quote writes any text in one line.
func Quote(s string) string {
	var b strings.Builder
	b.WriteByte('"')
	for i := range len(s) {
		switch c := s[i]; {
		case c == '"' || c == '\\':
			b.WriteByte('\\')
			b.WriteByte(c)
		case ' ' <= c && c <= '~':
			b.WriteByte(c)
		default:
			b.WriteString(`\x`)
			b.WriteByte(hex[c>>4])
			b.WriteByte(hex[c&15])
		}
	}
	b.WriteByte('"')
	return b.String()
}

// Value writes a value with its kind; an empty one is nothing but its kind.
func Value(v api.Value, numbers *shortest.Writer) string {
	switch v.Kind {
	case api.Number:
		return "number " + numbers.Print(v.Bits)
	case api.Bool:
		return "bool " + Bool(v.Is)
	case api.Text:
		return "text " + Quote(v.Text)
	case api.Fail:
		return "error " + formula.Fail(v.Fail)
	}
	return "empty"
}

func Bool(is bool) string {
	if is {
		return "TRUE"
	}
	return "FALSE"
}
