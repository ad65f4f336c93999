package funcs

import (
	"tabard/api"
	"tabard/value"
	"tabard/whole"
)

func (k *call) ofAreas(name string) api.Value {
	switch name {
	case "ROWS":
		return count(k.args[0].Rows)
	case "COLUMNS":
		return count(k.args[0].Cols)
	case "INDEX":
		return k.index()
	case "MATCH":
		return k.match()
	}
	n := 0
	counting := k.counting(name, &n)
	counting.over(k.args)
	return count(n)
}

func count(n int) api.Value { return value.Number(whole.From(n)) }

// counting counts the cells that a function asks for.
func (k *call) counting(name string, n *int) each {
	add := func(is bool) int {
		if is {
			*n++
		}
		return 0
	}
	switch name {
	case "COUNTA":
		full := func(v api.Value) int { return add(v.Kind != api.Empty) }
		return each{full, full}
	case "COUNTBLANK":
		blank := func(v api.Value) int { return add(v.Kind == api.Empty || v.Kind == api.Text && v.Text == "") }
		return each{blank, blank}
	}
	alone := func(v api.Value) int {
		_, fail := k.c.ops.ToNumber(v)
		return add(v.Kind != api.Empty && fail == 0)
	}
	inArea := func(v api.Value) int { return add(v.Kind == api.Number) }
	return each{alone, inArea}
}

func (k *call) index() api.Value {
	a, row, col := k.args[0], k.int(1), k.intOr(2, 1)
	at := (row-1)*a.Cols + col - 1
	// The last bounds are for arguments that aren't valid.
	if row < 1 || row > a.Rows || col < 1 || col > a.Cols || at < 0 || at >= len(a.Cells) {
		return value.Fail(api.FailRef)
	}
	v := a.Cells[at]
	if v.Kind == api.Empty {
		return value.Number(0)
	}
	return v
}

func (k *call) match() api.Value {
	v := k.scalar(0)
	if v.Kind == api.Fail {
		return v
	}
	for i, w := range k.args[1].Cells {
		if w.Kind == v.Kind && k.c.ops.Compare(v, w) == 0 {
			return count(i + 1)
		}
	}
	return value.Fail(api.FailNA)
}

// ofKind asks what a value is.
func (k *call) ofKind(name string, v api.Value) api.Value {
	switch name {
	case "ISBLANK":
		return value.Bool(v.Kind == api.Empty)
	case "ISNUMBER":
		return value.Bool(v.Kind == api.Number)
	case "ISTEXT":
		return value.Bool(v.Kind == api.Text)
	case "ISLOGICAL":
		return value.Bool(v.Kind == api.Bool)
	case "ISERROR":
		return value.Bool(v.Kind == api.Fail)
	case "ISNA":
		return value.Bool(isNA(v))
	case "N":
		return asNumber(v)
	}
	if v.Kind == api.Text || v.Kind == api.Fail {
		return v
	}
	return value.Text("")
}

func isNA(v api.Value) bool { return v.Kind == api.Fail && v.Fail == api.FailNA }

func asNumber(v api.Value) api.Value {
	switch {
	case v.Kind == api.Number || v.Kind == api.Fail:
		return v
	case v.Kind == api.Bool && v.Is:
		return value.Number(api.One)
	}
	return value.Number(0)
}

func (k *call) ofBools(name string) api.Value {
	switch name {
	case "TRUE", "FALSE":
		return value.Bool(name == "TRUE")
	case "NOT":
		return value.Bool(!k.bool(0))
	case "AND", "OR", "XOR":
		return joined(name, k.boolsOf())
	case "IF":
		switch {
		case k.bool(0):
			return k.scalar(1)
		case len(k.args) > 2:
			return k.scalar(2)
		}
		return value.Bool(false)
	case "IFERROR":
		return k.unless(k.scalar(0).Kind == api.Fail)
	case "IFNA":
		return k.unless(isNA(k.scalar(0)))
	case "CHOOSE":
		n := k.int(0)
		if n < 1 || n >= len(k.args) {
			return value.Fail(api.FailValue)
		}
		return k.scalar(n)
	}
	return value.Fail(api.FailNA)
}

// unless is the first argument, or the second one.
func (k *call) unless(second bool) api.Value {
	if second {
		return k.scalar(1)
	}
	return k.scalar(0)
}

func joined(name string, l []bool) api.Value {
	if len(l) == 0 {
		return value.Fail(api.FailValue)
	}
	n := 0
	for _, is := range l {
		if is {
			n++
		}
	}
	switch name {
	case "AND":
		return value.Bool(n == len(l))
	case "OR":
		return value.Bool(n > 0)
	}
	return value.Bool(n%2 == 1)
}
