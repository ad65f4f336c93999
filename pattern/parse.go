package pattern

import (
	"strings"
	"unicode/utf8"

	"tabard/api"
)

const (
	bare    = " -+():" // literals that stand for themselves
	general = "General"
	digits  = "0#?"
)

// What the byte before was, as far as a comma asks.
const (
	other = iota
	wholeDigit
	scaleComma
)

// fault is what the parser gives up with.
type fault struct {
	err api.Errno
	at  int
}

// parser reads a pattern from its beginning.
type parser struct {
	s        string
	at       int
	before   int
	sections []Section
	starts   []int
	items    int
	late     bool // behind a Point, Exp or Slash of the section
}

func Parse(s string) (p Pattern, err api.Errno, at int) {
	if len(s) > api.MaxEntry {
		return Pattern{}, api.ErrLong, 0
	}
	defer func() {
		if f, ok := recover().(fault); ok {
			p, err, at = Pattern{}, f.err, f.at
		}
	}()
	r := parser{s: s}
	r.begin()
	for r.at < len(s) {
		r.next()
	}
	for i, section := range r.sections {
		if !allowed(Shape(section), i, len(r.sections)) {
			panic(fault{api.ErrPattern, r.starts[i]})
		}
	}
	return Pattern{r.sections}, api.OK, 0
}

// fail gives up at the byte that is next.
func (r *parser) fail() {
	panic(fault{api.ErrPattern, r.at})
}

func (r *parser) begin() {
	r.sections = append(r.sections, Section{})
	r.starts = append(r.starts, r.at)
	r.late = false
}

// next reads the item, or whatever else, that is next.
func (r *parser) next() {
	before := r.before
	r.before = other
	c := r.s[r.at]
	switch {
	case c == ';':
		if len(r.sections) == mostSections {
			panic(fault{api.ErrMany, r.at})
		}
		r.at++
		r.begin()
	case c == '"':
		r.quoted()
	case c == '\\' || c == '_':
		r.escaped()
	case c == ',':
		r.comma(before)
	case strings.IndexByte(bare, c) >= 0:
		r.add(Item{Literal, string(rune(c))}, 1)
	case strings.IndexByte(digits, c) >= 0:
		if !r.late {
			r.before = wholeDigit
		}
		r.add(Item{Digit, string(rune(c))}, 1)
	case (c == 'E' || c == 'e') && (r.follows("+") || r.follows("-")):
		r.late = true
		r.add(Item{Exp, r.s[r.at+1 : r.at+2]}, 2)
	case strings.HasPrefix(r.s[r.at:], general):
		r.add(Item{Kind: General}, len(general))
	default:
		r.sign(c)
	}
}

// sign reads an item that is one byte.
func (r *parser) sign(c byte) {
	kind := None
	switch c {
	case '.':
		kind = Point
	case '%':
		kind = Percent
	case '/':
		kind = Slash
	case '@':
		kind = Whole
	case '$':
		kind = Money
	default:
		r.fail()
	}
	r.late = r.late || kind == Point || kind == Slash
	r.add(Item{Kind: kind}, 1)
}

// follows tells whether one of some bytes follows the one that is next.
func (r *parser) follows(some string) bool {
	return r.at+1 < len(r.s) && strings.IndexByte(some, r.s[r.at+1]) >= 0
}

// add appends an item of so many bytes.
func (r *parser) add(item Item, size int) {
	if r.items == api.MaxPattern {
		panic(fault{api.ErrMany, r.at})
	}
	r.items++
	r.at += size
	last := &r.sections[len(r.sections)-1]
	last.Items = append(last.Items, item)
}

func (r *parser) quoted() {
	size := strings.IndexByte(r.s[r.at+1:], '"')
	if size < 0 || !utf8.ValidString(r.s[r.at+1:r.at+1+size]) {
		r.fail()
	}
	r.at++
	for _, c := range r.s[r.at : r.at+size] {
		r.add(Item{Literal, string(c)}, utf8.RuneLen(c))
	}
	r.at++
}

func (r *parser) escaped() {
	c, size := utf8.DecodeRuneInString(r.s[r.at+1:])
	if c == utf8.RuneError && size <= 1 {
		r.fail()
	}
	if r.s[r.at] == '_' {
		c = ' '
	}
	r.add(Item{Literal, string(c)}, 1+size)
}

func (r *parser) comma(before int) {
	last := &r.sections[len(r.sections)-1]
	ahead := r.follows(digits)
	switch {
	case before == wholeDigit && ahead:
		last.Grouped = true
	case before != other && !ahead:
		last.Scale++
		r.before = scaleComma
	default:
		r.fail()
	}
	r.at++
}
