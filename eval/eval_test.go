package eval

import (
	"math"
	"math/rand"
	"slices"
	"strings"
	"testing"

	"tabard/api"
	"tabard/cell"
	"tabard/formula"
	"tabard/locale"
	"tabard/value"
)

func find(name string) locale.Locale {
	l, e := locale.Find(name)
	if e != api.OK {
		panic(name)
	}
	return l
}

func num(x float64) api.Value {
	return api.Value{Kind: api.Number, Bits: math.Float64bits(x)}
}

func txt(s string) api.Value { return api.Value{Kind: api.Text, Text: s} }

func fail(n int) api.Value { return api.Value{Kind: api.Fail, Fail: n} }

func at(s string) api.Ref {
	r, e := cell.Parse(s)
	if e != api.OK {
		panic(s)
	}
	return r
}

// sheet is a Source that notes what it is asked for.
type sheet struct {
	cells map[string]api.Value
	asked []int
}

func (s *sheet) Value(i int) api.Value {
	s.asked = append(s.asked, i)
	return s.cells[cell.Print(cell.At(i))]
}

func some() *sheet {
	return &sheet{cells: map[string]api.Value{"A1": num(2), "B1": txt("3"), "B2": fail(api.FailNA), "C1": num(1), "C2": {Kind: api.Bool, Is: true}, "C3": txt("1,5")}}
}

func parse(name, s string) api.Expr {
	e, err, _ := formula.New(find(name)).Parse(s)
	if err != api.OK {
		panic(s)
	}
	return e
}

func TestW1(t *testing.T) {
	yes, no := api.Value{Kind: api.Bool, Is: true}, api.Value{Kind: api.Bool}
	for _, c := range []struct {
		name, s string
		want    api.Value
	}{
		{"en", "A1+B1", num(5)}, {"en", "SUM(A1:B1)", num(2)}, {"en", `SUM(A1,"3")`, num(5)}, {"en", "A2", num(0)}, {"en", "A1:B1", fail(3)}, {"en", "-A1:B1", fail(3)}, {"en", "SUM(A1:BL1000)", fail(4)}, {"en", "SUM(A1:B2)", fail(7)}, {"en", `IF(A1>1,"a"&B1,B2)`, txt("a3")}, {"en", "B2+A1+A1", fail(7)},
		{"en", "1.5", num(1.5)}, {"en", `"x"`, txt("x")}, {"en", "TRUE", yes}, {"en", "#REF!", fail(4)}, {"en", "50%", num(0.5)}, {"en", "+A2", num(0)}, {"en", "IF(TRUE,A2)", num(0)}, {"en", "A2=\"\"", yes}, {"en", "A1:A1", fail(3)}, {"en", "A1=A1", yes}, {"en", "1+A1:A1", fail(3)}, {"en", "NOPE(1)", fail(5)}, {"en", "ABS(1,2)", fail(3)}, {"en", "#N/A+#REF!", fail(7)}, {"en", "#REF!+#N/A", fail(4)},
		{"en", "SUM(B1)", num(0)}, {"en", "SUM((B1))", num(0)}, {"en", "SUM(+B1)", num(3)}, {"en", "SUM(B1&\"\")", num(3)}, {"en", "COUNT(C1:C3)", num(1)}, {"en", "ROWS(B3:A1)", num(3)}, {"en", "COLUMNS(B3:A1)", num(2)}, {"en", "ROWS(A1)", num(1)}, {"en", "COLUMNS(5)", num(1)}, {"en", "ROWS(1+A1)", num(1)}, {"en", "COLUMNS(C2:E7)", num(3)}, {"en", "ROWS(C2:E7)", num(6)}, {"en", "SUM(C1:D3,C1)", num(2)}, {"en", "INDEX(C3:A1,1,3)", num(1)}, {"en", "INDEX(B1:A2,2,2)", fail(7)}, {"en", "ROWS(A1:BL64)", num(64)}, {"en", "ROWS(A1:BL65)", num(1)}, {"en", "ISERROR(A1:BL65)", yes}, {"en", "ISBLANK(A2)", yes}, {"en", "ISNUMBER(A2+0)", yes}, {"en", "ISBLANK(A1)", no}, {"en", "COUNTBLANK(A1:A9)", num(8)}, {"en", "IF(FALSE,B2,1)", num(1)}, {"en", "IFERROR(B2,5)", num(5)}, {"en", "2^3^2", num(64)}, {"en", "-2^2", num(4)}, {"en", "T(A2)", txt("")},
		{"de", "-C3", num(-1.5)}, {"en", "-C3", fail(3)}, {"de", `-"1,5"`, num(-1.5)}, {"de", `A1*0,5&""`, txt("1")}, {"de", `1,5&""`, txt("1,5")}, {"de", "SUM(A1;+C3)", num(3.5)},
	} {
		if v := New(find(c.name)).Eval(parse(c.name, c.s), some()); v != c.want {
			t.Error(c, v)
		}
	}
	deep := parse("en", "1")
	for range 100 {
		deep = api.Expr{Kind: api.XPost, Text: "%", Kids: []api.Expr{deep}}
	}
	for i, e := range []api.Expr{{}, {Kind: api.XNumber, Bits: api.NaN}, {Kind: api.XUnary, Text: "-"}, {Kind: api.XCell, A: api.Ref{Col: -1}}, deep, {Kind: api.XCall, Text: "sum"}} {
		s := some()
		if v := New(find("en")).Eval(e, s); v != fail(3) || len(s.asked) > 0 || len(Needs(e)) > 0 {
			t.Error(i, v)
		}
	}
	_ = (&Worker{}).Eval(parse("en", `1+"2"+SUM(A1)`), some())
	// P3: a Worker doesn't keep the caller's Sizes.
	l := find("en")
	w := New(l)
	l.Sizes[0] = 1
	if v := w.Eval(parse("en", `"1,234"+0`), some()); v != num(1234) {
		t.Error(v)
	}
}

func TestW2(t *testing.T) {
	for _, c := range []struct{ s, want string }{
		{"A1+B1", "A1:A1 B1:B1"}, {"SUM(A1:B1)", "A1:B1"}, {"ROWS(B3:A1)", "A1:B3"}, {"B2+A1+A1", "B2:B2 A1:A1"}, {"1", ""}, {"SUM($B$2:C1,B1:C2,C1:B2)", "B1:C2"}, {"$A$1+A1+A1:A1", "A1:A1"}, {"IF(C1,B1%,-A1)", "C1:C1 B1:B1 A1:A1"}, {"SUM(A1:BL1000)", "A1:BL1000"}, {"A1:B2", "A1:B2"},
	} {
		l := []string{}
		for _, a := range Needs(parse("en", c.s)) {
			l = append(l, cell.Print(a.A)+":"+cell.Print(a.B))
		}
		if s := strings.Join(l, " "); s != c.want {
			t.Error(c, s)
		}
	}
	l := Needs(parse("en", "A1+B1"))
	l[0] = Area{}
	if Needs(parse("en", "A1+B1"))[0].B != at("A1") {
		t.Error("Needs shares memory")
	}
}

func TestW3(t *testing.T) {
	r := rand.New(rand.NewSource(3))
	parts := []string{"1", "0.5", `"a"`, "A1", "B1", "C1", "C2", "A2", "B2", "TRUE", "#N/A", "SUM(A1:C3)", "COUNTA(B1:C2)", "MAX(1,A1)"}
	for range 5000 {
		s := parts[r.Intn(len(parts))]
		for range r.Intn(4) {
			s += strings.Fields("+ - * / ^ & = < >=")[r.Intn(9)] + parts[r.Intn(len(parts))]
		}
		e := parse("en", s)
		source := some()
		v := New(find("en")).Eval(e, source)
		if !value.Right(v) || v.Kind == api.Empty {
			t.Fatal(s, v)
		}
		needs := Needs(e)
		for _, i := range source.asked {
			if !slices.ContainsFunc(needs, func(a Area) bool { return cell.Inside(cell.At(i), a.A, a.B) }) {
				t.Fatal(s, i)
			}
		}
		name := locale.Names()[r.Intn(6)]
		p := formula.New(find(name))
		again, err, _ := p.Parse(p.Print(e))
		if w := New(find("en")).Eval(again, some()); err != api.OK || w != v {
			t.Fatal(s, name, v, w)
		}
		if strings.ContainsAny(s, `"B&`) || strings.Contains(s, "C3") {
			continue
		}
		if w := New(find(name)).Eval(again, some()); w != v {
			t.Fatal(s, name, v, w)
		}
	}
}
