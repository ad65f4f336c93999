package formula

import (
	"strings"

	"tabard/api"
	"tabard/cell"
	"tabard/decimal"
	"tabard/float"
)

// parser holds the token that is next, and the first error.
type parser struct {
	r     *Reader
	s     string
	next  token
	open  int // parentheses and prefix signs
	err   api.Errno
	errAt int
}

func (r *Reader) Parse(s string) (api.Expr, api.Errno, int) {
	if len(s) > api.MaxEntry {
		return api.Expr{}, api.ErrLong, 0
	}
	p := parser{r: r, s: s, next: r.scan(s, 0)}
	e := p.level(1)
	if p.next.kind != atEnd {
		p.fail(api.ErrSyntax)
	}
	if p.err != api.OK {
		return api.Expr{}, p.err, p.errAt
	}
	nodes, deep := Size(e)
	if nodes > api.MaxNodes {
		return api.Expr{}, api.ErrMany, 0
	}
	if deep > api.MaxNest {
		return api.Expr{}, api.ErrDeep, 0
	}
	return e, api.OK, 0
}

// fail is an error at the token that is next. Then all has been read, as it were: no rule goes on.
func (p *parser) fail(err api.Errno) api.Expr {
	if p.err == api.OK {
		p.err, p.errAt = err, p.next.at
	}
	p.next = token{kind: atEnd, at: len(p.s)}
	return api.Expr{}
}

// end is where the token that is next ends.
func (p *parser) end() int { return p.next.at + len(p.next.text) }

// take passes over the token that is next.
func (p *parser) take() token {
	t := p.next
	if p.err == api.OK {
		p.next = p.r.scan(p.s, p.end())
	}
	return t
}

// sees tells whether one of some signs is next.
func (p *parser) sees(signs ...string) bool {
	for _, s := range signs {
		if p.next.kind == sign && p.next.text == s {
			return true
		}
	}
	return false
}

// want passes over a sign that must be next.
func (p *parser) want(s string) {
	if !p.sees(s) {
		p.fail(api.ErrSyntax)
		return
	}
	p.take()
}

// level reads operands and operators of a level, to the left.
func (p *parser) level(n int) api.Expr {
	if n > levels {
		return p.prefix()
	}
	e := p.level(n + 1)
	for p.next.kind == sign && level(p.next.text) == n {
		op := p.take().text
		e = api.Expr{Kind: api.XBinary, Text: op, Kids: []api.Expr{e, p.level(n + 1)}}
	}
	return e
}

// enter opens a parenthesis or a prefix sign, if there may be one more.
func (p *parser) enter() string {
	if p.open == api.MaxNest {
		p.fail(api.ErrDeep)
	}
	p.open++
	return p.take().text
}

func (p *parser) prefix() api.Expr {
	if !p.sees("-", "+") {
		return p.post()
	}
	op := p.enter()
	e := api.Expr{Kind: api.XUnary, Text: op, Kids: []api.Expr{p.prefix()}}
	p.open--
	return e
}

func (p *parser) post() api.Expr {
	e := p.prime()
	for p.sees("%") {
		e = api.Expr{Kind: api.XPost, Text: p.take().text, Kids: []api.Expr{e}}
	}
	return e
}

func (p *parser) prime() api.Expr {
	switch p.next.kind {
	case number:
		return p.number()
	case text:
		return p.text()
	case failName:
		return api.Expr{Kind: api.XFail, Fail: failNumber(p.take().text)}
	case word:
		return p.word()
	}
	if !p.sees("(") {
		return p.fail(api.ErrSyntax)
	}
	p.enter()
	e := p.level(1)
	p.want(")")
	p.open--
	return e
}

const enoughExp = 1000000 // beyond every bound, however many digits there are

func (p *parser) number() api.Expr {
	mantissa, tail := p.next.text, ""
	if i := strings.IndexAny(mantissa, "eE"); i >= 0 {
		mantissa, tail = mantissa[:i], mantissa[i+1:]
	}
	whole, places, _ := strings.Cut(mantissa, p.r.point)
	exp := 0
	for i := range len(tail) {
		if isDigit(tail[i]) {
			exp = min(exp*10+int(tail[i]-'0'), enoughExp)
		}
	}
	if strings.HasPrefix(tail, "-") {
		exp = -exp
	}
	d, err := decimal.Make(false, whole+places, exp-len(places))
	if err != api.OK {
		return p.fail(api.ErrOver)
	}
	x, _ := p.r.numbers.Bits(d)
	if float.Kind(x) == float.Endless {
		return p.fail(api.ErrOver)
	}
	p.take()
	return api.Expr{Kind: api.XNumber, Bits: x}
}

func (p *parser) text() api.Expr {
	inner := p.next.text[1 : len(p.next.text)-1]
	s := strings.ReplaceAll(inner, `""`, `"`)
	if len(s) > api.MaxText {
		return p.fail(api.ErrLong)
	}
	p.take()
	return api.Expr{Kind: api.XText, Text: s}
}

// isCall tells whether the word that is next is immediately followed by a parenthesis.
func (p *parser) isCall() bool {
	return strings.HasPrefix(p.s[p.end():], "(")
}

func (p *parser) word() api.Expr {
	name := strings.ToUpper(p.next.text)
	if p.isCall() {
		return p.call(name)
	}
	if isBool(name) {
		p.take()
		return api.Expr{Kind: api.XBool, Is: name == "TRUE"}
	}
	a := p.cell()
	if !p.sees(":") {
		return api.Expr{Kind: api.XCell, A: a}
	}
	p.take()
	if p.next.kind != word || p.isCall() || isBool(strings.ToUpper(p.next.text)) {
		return p.fail(api.ErrSyntax)
	}
	return api.Expr{Kind: api.XRange, A: a, B: p.cell()}
}

func isBool(name string) bool { return name == "TRUE" || name == "FALSE" }

// cell reads the word that is next as a cell.
func (p *parser) cell() api.Ref {
	a, err := cell.Parse(p.next.text)
	if err == api.ErrForm {
		err = api.ErrName
	}
	if err != api.OK {
		p.fail(err)
		return api.Ref{}
	}
	p.take()
	return a
}

func (p *parser) call(name string) api.Expr {
	if !isName(name) {
		return p.fail(api.ErrName)
	}
	p.take()
	e := api.Expr{Kind: api.XCall, Text: name}
	p.enter()
	if p.sees(")") {
		p.take()
		p.open--
		return e
	}
	e.Kids = []api.Expr{p.level(1)}
	for p.sees(p.r.list) {
		if len(e.Kids) == api.MaxArgs {
			return p.fail(api.ErrMany)
		}
		p.take()
		e.Kids = append(e.Kids, p.level(1))
	}
	p.want(")")
	p.open--
	return e
}
