// Package sheetio: sheets as files: layer 22: see shared/doc/22-sheetio.md.
package sheetio

import (
	"strconv"
	"strings"

	"tabard/cell"
	"tabard/engine"
	"tabard/formula"
	"tabard/shortest"
	"tabard/wording"
)

const (
	firstLine  = "tabard 1"
	localeWord = "locale "
	endWord    = "end "
)

// Quote writes any text in one line, Unquote reads it.
func Quote(s string) string { return wording.Quote(s) }

func Unquote(s string) (string, bool) {
	if len(s) < 2 || s[0] != '"' || s[len(s)-1] != '"' {
		return "", false
	}
	inner := s[1 : len(s)-1]
	var b strings.Builder
	for inner != "" {
		c, size := unquoted(inner)
		if size == 0 {
			return "", false
		}
		b.WriteByte(c)
		inner = inner[size:]
	}
	// Whatever else might be read so is written in another way.
	if wording.Quote(b.String()) != s {
		return "", false
	}
	return b.String(), true
}

// unquoted is the byte that a string begins with, and how many bytes say it, or 0.
func unquoted(s string) (byte, int) {
	switch {
	case s[0] != '\\':
		return s[0], 1
	case len(s) >= 4 && s[1] == 'x':
		v, err := strconv.ParseUint(s[2:4], 16, 8)
		if err != nil {
			return 0, 0
		}
		return byte(v), 4
	case len(s) >= 2:
		return s[1], 2
	}
	return 0, 0
}

// file is what has been written.
type file struct {
	strings.Builder
	numbers  *shortest.Writer
	formulas *formula.Reader
}

func Save(s *engine.Sheet) string {
	if s == nil {
		return ""
	}
	f := &file{numbers: shortest.New(), formulas: wording.English()}
	f.line(firstLine)
	f.line(localeWord + s.Name())
	cells := s.Cells()
	for _, i := range cells {
		f.cell(s, i)
	}
	f.line(endWord + strconv.Itoa(len(cells)))
	return f.String()
}

func (f *file) line(text string) {
	f.WriteString(text)
	f.WriteByte('\n')
}

// cell writes the lines of a cell that apply.
func (f *file) cell(s *engine.Sheet, i int) {
	r := cell.At(i)
	name := cell.Print(r) + " "
	switch c := s.Content(r); c.Kind {
	case engine.Constant:
		f.line(name + wording.Value(c.Value, f.numbers))
	case engine.Formula:
		f.line(name + "formula " + Quote(f.formulas.Print(c.Expr)))
		f.line(name + "value " + wording.Value(s.Value(i), f.numbers))
	}
	if p := s.Pattern(r); p != "" {
		f.line(name + "pattern " + Quote(p))
	}
}

// isCanonical tells whether s is a number in canonical decimal form.
func isCanonical(s string) bool {
	for i := range len(s) {
		if s[i] < '0' || s[i] > '9' {
			return false
		}
	}
	return s == "0" || s != "" && s[0] != '0'
}
