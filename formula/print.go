package formula

import (
	"strings"

	"tabard/api"
	"tabard/cell"
)

func (r *Reader) Print(e api.Expr) string {
	if !Right(e) {
		return ""
	}
	var b strings.Builder
	r.write(&b, e)
	return b.String()
}

// levelOf is the level of a node.
func levelOf(e api.Expr) int {
	switch e.Kind {
	case api.XBinary:
		return level(e.Text)
	case api.XUnary:
		return levelSign
	case api.XPost:
		return levelPost
	}
	return levelRest
}

func (r *Reader) write(b *strings.Builder, e api.Expr) {
	switch e.Kind {
	case api.XNumber:
		b.WriteString(strings.Replace(r.numbers.Print(e.Bits), ".", r.point, 1))
	case api.XText:
		b.WriteString(`"` + strings.ReplaceAll(e.Text, `"`, `""`) + `"`)
	case api.XBool:
		b.WriteString(boolName(e.Is))
	case api.XFail:
		b.WriteString(Fail(e.Fail))
	case api.XCell:
		b.WriteString(cell.Print(e.A))
	case api.XRange:
		b.WriteString(cell.Print(e.A) + ":" + cell.Print(e.B))
	case api.XUnary:
		b.WriteString(e.Text)
		r.writeKid(b, e.Kids[0], levelSign)
	case api.XBinary:
		n := level(e.Text)
		r.writeKid(b, e.Kids[0], n)
		b.WriteString(e.Text)
		r.writeKid(b, e.Kids[1], n+1)
	case api.XPost:
		r.writeKid(b, e.Kids[0], levelPost)
		b.WriteString(e.Text)
	case api.XCall:
		r.writeCall(b, e)
	}
}

func boolName(is bool) string {
	if is {
		return "TRUE"
	}
	return "FALSE"
}

// writeKid writes a kid, in parentheses if its level is below the one that is asked for.
func (r *Reader) writeKid(b *strings.Builder, e api.Expr, least int) {
	if levelOf(e) >= least {
		r.write(b, e)
		return
	}
	b.WriteByte('(')
	r.write(b, e)
	b.WriteByte(')')
}

func (r *Reader) writeCall(b *strings.Builder, e api.Expr) {
	b.WriteString(e.Text)
	b.WriteByte('(')
	for i, k := range e.Kids {
		if i > 0 {
			b.WriteString(r.list)
		}
		r.write(b, k)
	}
	b.WriteByte(')')
}
