package sheetio

import (
	"strconv"
	"strings"

	"tabard/api"
	"tabard/cell"
	"tabard/engine"
	"tabard/formula"
	"tabard/pattern"
	"tabard/shortest"
	"tabard/value"
	"tabard/wording"
)

// Which line of a cell was the last one; they stand in this order.
const (
	noLine = iota
	contentLine
	formulaLine
	valueLine
	patternLine
)

const mostText = api.MaxText - 1 // of a content

// edit is what a line does to a cell.
type edit struct {
	at      api.Ref
	content engine.Content
	pattern string // or none: then the content is put
}

// loader reads a file line by line.
type loader struct {
	rest     string
	number   int // of the line
	numbers  *shortest.Writer
	formulas *formula.Reader
	edits    []edit
	cells    int
	last     int // the index of the cell, and what its last line was
	was      int
}

// Load is a file's sheet, or an error and the line.
func Load(text string) (*engine.Sheet, api.Errno, int) {
	if len(text) > api.MaxFile {
		return nil, api.ErrLong, 0
	}
	l := &loader{rest: text, numbers: shortest.New(), formulas: wording.English(), last: -1}
	s, err := l.head()
	for ended := false; err == api.OK && !ended; {
		ended, err = l.next()
	}
	if err != api.OK {
		return nil, err, l.number
	}
	for _, e := range l.edits {
		if e.pattern != "" {
			s.Format(e.at, e.pattern)
		} else {
			s.Put(e.at, e.content)
		}
	}
	return s, api.OK, 0
}

// line passes over a line; false: it is missing, or its end is.
func (l *loader) line() (string, bool) {
	l.number++
	line, rest, ok := strings.Cut(l.rest, "\n")
	if ok {
		l.rest = rest
	}
	return line, ok
}

// head reads the first two lines.
func (l *loader) head() (*engine.Sheet, api.Errno) {
	if line, ok := l.line(); !ok || line != firstLine {
		return nil, api.ErrForm
	}
	line, ok := l.line()
	name, found := strings.CutPrefix(line, localeWord)
	if !ok || !found {
		return nil, api.ErrForm
	}
	return engine.New(name)
}

// next reads another line, and tells whether it is the last one.
func (l *loader) next() (bool, api.Errno) {
	line, ok := l.line()
	if !ok {
		return false, api.ErrForm
	}
	if l.was == formulaLine && !strings.HasPrefix(line, cell.Print(cell.At(l.last))+" value ") {
		return false, api.ErrForm
	}
	if count, ok := strings.CutPrefix(line, endWord); ok {
		return true, l.end(count)
	}
	return false, l.cellLine(line)
}

func (l *loader) end(count string) api.Errno {
	switch {
	case !isCanonical(count):
		return api.ErrForm
	case count != strconv.Itoa(l.cells):
		return api.ErrSum
	case l.rest != "":
		l.number++
		return api.ErrForm
	}
	return api.OK
}

func (l *loader) cellLine(line string) api.Errno {
	name, rest, ok := strings.Cut(line, " ")
	at, err := cell.Parse(name)
	if !ok || err != api.OK || at.AbsCol || at.AbsRow || cell.Print(at) != name {
		return api.ErrForm
	}
	i := cell.Index(at)
	if i < l.last {
		return api.ErrOrder
	}
	if i > l.last {
		l.was = noLine
	}
	word, what, ok := strings.Cut(rest, " ")
	kind := lineKind(word)
	// A value stands right behind its formula; nothing else does.
	if !ok || kind <= l.was || (kind == valueLine) != (l.was == formulaLine) || kind == formulaLine && l.was == contentLine {
		return api.ErrForm
	}
	e, err := l.edit(at, kind, word, what)
	if err != api.OK {
		return err
	}
	if i > l.last {
		if l.cells == api.MaxCells {
			return api.ErrMany
		}
		l.cells++
		l.last = i
	}
	l.was = kind
	if kind != valueLine {
		l.edits = append(l.edits, e)
	}
	return api.OK
}

func lineKind(word string) int {
	switch word {
	case "number", "text", "bool", "error":
		return contentLine
	case "formula":
		return formulaLine
	case "value":
		return valueLine
	case "pattern":
		return patternLine
	}
	return noLine
}

// edit is what a line asks for.
func (l *loader) edit(at api.Ref, kind int, word, what string) (edit, api.Errno) {
	switch kind {
	case formulaLine:
		e, err := l.formula(what)
		return edit{at: at, content: engine.Content{Kind: engine.Formula, Expr: e}}, err
	case patternLine:
		p, err := patternOf(what)
		return edit{at: at, pattern: p}, err
	case valueLine:
		word, what, ok := strings.Cut(what, " ")
		if !ok {
			return edit{}, api.ErrForm
		}
		_, err := l.value(word, what, api.MaxText)
		return edit{}, err
	}
	v, err := l.value(word, what, mostText)
	return edit{at: at, content: engine.Content{Kind: engine.Constant, Value: v}}, err
}

// value reads a value whose text has no more than so many bytes.
func (l *loader) value(word, what string, most int) (api.Value, api.Errno) {
	switch word {
	case "number":
		x, err := l.numbers.Parse(what)
		if v := value.Number(x); err == api.OK && v.Kind == api.Number {
			return v, api.OK
		}
	case "text":
		s, ok := Unquote(what)
		if ok && len(s) > most {
			return api.Value{}, api.ErrArg
		}
		if ok {
			return api.Value{Kind: api.Text, Text: s}, api.OK
		}
	case "bool":
		if what == "TRUE" || what == "FALSE" {
			return value.Bool(what == "TRUE"), api.OK
		}
	case "error":
		if n := wording.Fail(what); n > 0 {
			return value.Fail(n), api.OK
		}
	}
	return api.Value{}, api.ErrForm
}

func (l *loader) formula(what string) (api.Expr, api.Errno) {
	s, ok := Unquote(what)
	if !ok {
		return api.Expr{}, api.ErrForm
	}
	if len(s) > mostText {
		return api.Expr{}, api.ErrArg
	}
	e, err, _ := l.formulas.Parse(s)
	if err != api.OK || l.formulas.Print(e) != s {
		return api.Expr{}, api.ErrForm
	}
	return e, api.OK
}

func patternOf(what string) (string, api.Errno) {
	s, ok := Unquote(what)
	if !ok {
		return "", api.ErrForm
	}
	p, err, _ := pattern.Parse(s)
	if s == "" || err != api.OK || pattern.Print(p) != s {
		return "", api.ErrPattern
	}
	return s, api.OK
}
