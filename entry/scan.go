package entry

import (
	"strconv"
	"strings"

	"tabard/locale"
)

const mostExp = 9 // the digits of an exponent

// typed is what an entry says.
type typed struct {
	neg             bool
	kind            int
	whole, places   string
	grouped, hasExp bool
	exp             int
}

// scanner holds what hasn't been read yet.
type scanner struct {
	l    locale.Locale
	rest string
}

func isBlank(r rune) bool {
	return r == ' ' || r == '\t' || r == '\u00a0' || r == '\u202f'
}

func isDigit(b byte) bool { return '0' <= b && b <= '9' }

// symbol passes over a symbol if it is next.
func (s *scanner) symbol(sign string) bool {
	if sign == "" || !strings.HasPrefix(s.rest, sign) {
		return false
	}
	s.rest = s.rest[len(sign):]
	return true
}

func (s *scanner) blanks() {
	for i, r := range s.rest {
		if !isBlank(r) {
			s.rest = s.rest[i:]
			return
		}
	}
	s.rest = ""
}

// sign tells whether there is a negative sign.
func (s *scanner) sign() bool {
	if s.symbol("+") {
		return false
	}
	return s.symbol("-") || s.symbol(s.l.Minus)
}

// entry reads all of the rest; false: it has no form of an entry.
func (s *scanner) entry() (typed, bool) {
	if s.symbol("(") {
		s.blanks()
		t, ok := s.amount()
		s.blanks()
		t.neg = true
		return t, ok && s.symbol(")") && s.rest == ""
	}
	neg := s.sign()
	s.blanks()
	t, ok := s.amount()
	t.neg = neg
	return t, ok && s.rest == ""
}

func (s *scanner) amount() (typed, bool) {
	if s.symbol(s.l.Currency) {
		s.blanks()
		t, ok := s.number()
		t.kind = Money
		return t, ok
	}
	t, ok := s.number()
	s.blanks()
	switch {
	case s.symbol(s.l.Percent):
		t.kind = Percent
	case s.symbol(s.l.Currency):
		t.kind = Money
	}
	return t, ok
}

func (s *scanner) number() (typed, bool) {
	t := typed{}
	ok := true
	t.whole, t.grouped = s.row()
	if t.grouped {
		t.whole, ok = s.l.Plain(t.whole)
	}
	if s.symbol(s.l.Decimal) {
		t.places = s.digits()
	}
	if !ok || t.whole == "" && t.places == "" {
		return typed{}, false
	}
	if !s.symbol("e") && !s.symbol("E") {
		return t, true
	}
	t.hasExp = true
	neg := s.sign()
	exp := s.digits()
	if exp == "" || len(exp) > mostExp {
		return typed{}, false
	}
	t.exp, _ = strconv.Atoi(exp)
	if neg {
		t.exp = -t.exp
	}
	return t, true
}

// digits passes over a row of digits.
func (s *scanner) digits() string {
	n := 0
	for n < len(s.rest) && isDigit(s.rest[n]) {
		n++
	}
	row := s.rest[:n]
	s.rest = s.rest[n:]
	return row
}

// row passes over digits between which there may be Groups, and tells whether there are any.
func (s *scanner) row() (string, bool) {
	all := s.rest
	group := s.l.Group
	grouped := false
	size := len(s.digits())
	for size > 0 && group != "" && strings.HasPrefix(s.rest, group) {
		next := s.rest[len(group):]
		if next == "" || !isDigit(next[0]) {
			break
		}
		grouped = true
		s.rest = next
		s.digits()
		size = len(all) - len(s.rest)
	}
	return all[:size], grouped
}
