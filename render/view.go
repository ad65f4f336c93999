package render

import (
	"strings"

	"tabard/locale"
	"tabard/pattern"
)

// piece is what an item is in its section; empty is what it displays where there is no digit for it.
type piece interface {
	empty() string
}

// fixed displays the same, whatever the number is.
type fixed string

func (f fixed) empty() string { return string(f) }

// word stands for a whole text, or a number in the general format.
type word struct{}

func (word) empty() string { return "" }

// placeholder is a Digit; zero: it displays a 0 rather than nothing.
type placeholder struct {
	sign string
	zero bool
}

func (p placeholder) empty() string {
	switch {
	case p.zero:
		return "0"
	case p.sign == "?":
		return " "
	}
	return ""
}

// whole stands at a place of a row of digits, counted from the row's end.
type whole struct {
	placeholder
	place int
	first bool
}

// numerator is a whole of a row of its own.
type numerator struct{ whole }

// behind stands behind the point, counted from there.
type behind struct {
	placeholder
	at int
}

// point displays, where there is no placeholder for them, all whole digits.
type point struct {
	fixed
	bare bool
}

// power is an Exp.
type power struct{ plus bool }

func (power) empty() string { return "E" }

// last is the first Digit behind an Exp or a Slash; the others are fixed.
type last struct{}

func (last) empty() string { return "" }

// view is a section, and what is to be displayed by it.
type view struct {
	l       locale.Locale
	shape   int
	grouped bool
	scale   int
	pieces  []piece

	wholes, places, lasts int // placeholders
	percent               bool

	wordText                          string
	wholeRow, behindRow, numeratorRow string
	lastText                          string
	exp                               int

	noFraction bool
	from, to   int // the items that a number without a fraction doesn't display
}

func sectionView(s pattern.Section, l locale.Locale) *view {
	v := &view{l: l, shape: pattern.Shape(s), grouped: s.Grouped, scale: s.Scale}
	kinds := roles(s.Items)
	for i, r := range kinds {
		switch r {
		case isWhole:
			v.wholes++
			v.from = i + 1
		case isBehind:
			v.places++
		case isLast:
			v.lasts++
			v.to = i + 1
		}
	}
	for i, item := range s.Items {
		v.percent = v.percent || item.Kind == pattern.Percent
		v.pieces = append(v.pieces, v.piece(s.Items, kinds, i, item))
	}
	return v
}

// What a Digit is.
const (
	isNone = iota
	isWhole
	isBehind
	isNumerator
	isLast
)

// roles are what the items are, if they are Digits.
func roles(items []pattern.Item) []int {
	r := make([]int, len(items))
	now := isWhole
	for i, item := range items {
		switch item.Kind {
		case pattern.Digit:
			r[i] = now
		case pattern.Point:
			now = isBehind
		case pattern.Exp:
			now = isLast
		case pattern.Slash:
			now = isLast
			for k := i - 1; k >= 0 && items[k].Kind == pattern.Digit; k-- {
				r[k] = isNumerator
			}
		}
	}
	return r
}

// piece is what the item at i is.
func (v *view) piece(items []pattern.Item, kinds []int, i int, item pattern.Item) piece {
	switch item.Kind {
	case pattern.Digit:
		return v.digit(items, kinds, i)
	case pattern.Point:
		return point{fixed(v.l.Decimal), v.wholes == 0}
	case pattern.Percent:
		return fixed(v.l.Percent)
	case pattern.Exp:
		return power{item.Text == "+"}
	case pattern.Slash:
		return fixed("/")
	case pattern.General, pattern.Whole:
		return word{}
	case pattern.Money:
		return fixed(v.l.Currency)
	}
	return fixed(item.Text)
}

// digit is what the Digit at i is, by the others of its row.
func (v *view) digit(items []pattern.Item, kinds []int, i int) piece {
	left, right := 0, 0
	zeroLeft, zeroRight := items[i].Text == "0", items[i].Text == "0"
	for k := range items {
		if k == i || kinds[k] != kinds[i] {
			continue
		}
		zero := items[k].Text == "0"
		if k < i {
			left++
			zeroLeft = zeroLeft || zero
		} else {
			right++
			zeroRight = zeroRight || zero
		}
	}
	w := whole{placeholder{items[i].Text, zeroLeft}, right, left == 0}
	switch {
	case kinds[i] == isWhole:
		return w
	case kinds[i] == isNumerator:
		return numerator{w}
	case kinds[i] == isBehind:
		return behind{placeholder{items[i].Text, zeroRight}, left}
	case left == 0:
		return last{}
	}
	return fixed("")
}

// text displays the pieces one after the other.
func (v *view) text() string {
	var b strings.Builder
	for i, p := range v.pieces {
		if v.noFraction && v.from <= i && i < v.to {
			continue
		}
		b.WriteString(v.show(p))
	}
	return b.String()
}

func (v *view) show(p piece) string {
	switch p := p.(type) {
	case word:
		return v.wordText
	case whole:
		return v.row(p, v.wholeRow)
	case numerator:
		return v.row(p.whole, v.numeratorRow)
	case behind:
		if p.zero || len(strings.TrimRight(v.behindRow, "0")) > p.at {
			return v.behindRow[p.at : p.at+1]
		}
	case point:
		if p.bare {
			return v.wholeRow + p.empty()
		}
	case power:
		return p.empty() + v.sign(p.plus)
	case last:
		return v.lastText
	}
	return p.empty()
}

// sign is that of the exponent.
func (v *view) sign(plus bool) string {
	switch {
	case v.exp < 0:
		return "-"
	case plus:
		return "+"
	}
	return ""
}

// row displays a whole's digit of a row, and those ahead of it if it is the first.
func (v *view) row(p whole, digits string) string {
	at := len(digits) - 1 - p.place
	if at < 0 {
		none := p.empty()
		if none == "0" {
			none += v.gap(p.place)
		}
		return none
	}
	from := at
	if p.first {
		from = 0
	}
	var b strings.Builder
	for i := from; i <= at; i++ {
		b.WriteByte(digits[i])
		b.WriteString(v.gap(len(digits) - 1 - i))
	}
	return b.String()
}

// gap is what follows a digit at a place: a Group, if complete groups are behind it.
func (v *view) gap(place int) string {
	if !v.grouped || place == 0 {
		return ""
	}
	for i := 0; place > 0 && len(v.l.Sizes) > 0; i++ {
		// A size that is no size is of no locale; it ends the groups.
		size := v.l.Sizes[min(i, len(v.l.Sizes)-1)]
		if size <= 0 || size > place {
			return ""
		}
		place -= size
	}
	if place > 0 {
		return ""
	}
	return v.l.Group
}
