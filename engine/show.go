package engine

import (
	"tabard/api"
	"tabard/cell"
	"tabard/entry"
	"tabard/formula"
	"tabard/render"
	"tabard/value"
)

// Entry is what might be typed for a cell, Show what is seen of it.
func (s *Sheet) Entry(r api.Ref) string {
	c := s.at(cell.Index(r)).content
	switch c.Kind {
	case Formula:
		return "=" + s.tools().formulas.Print(c.Expr)
	case Constant:
		return s.tools().typed(c)
	}
	return ""
}

// typed is what might be typed for a constant.
func (t *tools) typed(c Content) string {
	v := c.Value
	switch v.Kind {
	case api.Number:
		return t.typedNumber(v.Bits)
	case api.Bool:
		return boolName(v)
	case api.Fail:
		return formula.Fail(v.Fail)
	}
	again, err := t.read(v.Text)
	if err == api.OK && again.Kind == Constant && again.Value == v {
		return v.Text
	}
	return "'" + v.Text
}

func (t *tools) typedNumber(x uint64) string {
	size := t.formulas.Print(api.Expr{Kind: api.XNumber, Bits: x &^ api.NegZero})
	if x&api.NegZero != 0 {
		return "-" + size
	}
	return size
}

func boolName(v api.Value) string {
	var ops value.Ops // a bool's name hangs on no locale
	name, _ := ops.ToText(v)
	return name
}

func (s *Sheet) Show(r api.Ref) string {
	it := s.at(cell.Index(r))
	switch it.value.Kind {
	case api.Number:
		if !it.patterned {
			return entry.General(it.value.Bits, s.l)
		}
		text, _ := render.Number(it.pattern, it.value.Bits, s.l)
		return text
	case api.Text:
		if !it.patterned {
			return it.value.Text
		}
		text, _ := render.Text(it.pattern, it.value.Text, s.l)
		return text
	case api.Bool:
		return boolName(it.value)
	case api.Fail:
		return formula.Fail(it.value.Fail)
	}
	return ""
}
