package formula

import (
	"math"
	"math/rand"
	"reflect"
	"strings"
	"testing"

	"tabard/api"
	"tabard/cell"
	"tabard/float"
	"tabard/locale"
)

func reader(name string) *Reader {
	l, e := locale.Find(name)
	if e != api.OK {
		panic(name)
	}
	return New(l)
}

func num(x float64) api.Expr { return api.Expr{Kind: api.XNumber, Bits: math.Float64bits(x)} }

func txt(s string) api.Expr { return api.Expr{Kind: api.XText, Text: s} }

func at(s string) api.Expr {
	a, e := cell.Parse(s)
	if e != api.OK {
		panic(s)
	}
	return api.Expr{Kind: api.XCell, A: a}
}

func area(a, b string) api.Expr { return api.Expr{Kind: api.XRange, A: at(a).A, B: at(b).A} }

func un(op string, e api.Expr) api.Expr {
	return api.Expr{Kind: api.XUnary, Text: op, Kids: []api.Expr{e}}
}

func bin(op string, a, b api.Expr) api.Expr {
	return api.Expr{Kind: api.XBinary, Text: op, Kids: []api.Expr{a, b}}
}

func post(e api.Expr) api.Expr { return api.Expr{Kind: api.XPost, Text: "%", Kids: []api.Expr{e}} }

func call(name string, l ...api.Expr) api.Expr {
	return api.Expr{Kind: api.XCall, Text: name, Kids: l}
}

func fail(n int) api.Expr { return api.Expr{Kind: api.XFail, Fail: n} }

func is(b bool) api.Expr { return api.Expr{Kind: api.XBool, Is: b} }

// deep is a chain of so many nodes.
func deep(n int) api.Expr {
	e := num(1)
	for range n - 1 {
		e = post(e)
	}
	return e
}

func TestK1(t *testing.T) {
	ref := at("A1").A
	many := make([]api.Expr, 30)
	for i := range many {
		many[i] = num(1)
	}
	endless := []api.Expr{{Kind: api.XPost, Text: "%"}}
	endless[0].Kids = endless
	for i, c := range []struct {
		e  api.Expr
		ok bool
	}{
		{num(1.5), true}, {num(0), true}, {num(math.Copysign(0, -1)), false}, {num(-1), false}, {num(math.Inf(1)), false}, {num(math.NaN()), false}, {api.Expr{}, false}, {api.Expr{Kind: 11}, false}, {api.Expr{Kind: -1}, false},
		{txt(strings.Repeat("\xff", 1000)), true}, {txt(strings.Repeat("a", 1001)), false}, {is(true), true}, {is(false), true}, {fail(1), true}, {fail(8), true}, {fail(0), false}, {fail(9), false}, {at("$BL$1000"), true}, {api.Expr{Kind: api.XCell, A: api.Ref{Col: 64}}, false}, {area("B2", "A1"), true}, {api.Expr{Kind: api.XRange, A: ref, B: api.Ref{Row: -1}}, false},
		{un("-", num(1)), true}, {un("+", num(1)), true}, {un("*", num(1)), false}, {api.Expr{Kind: api.XUnary, Text: "-"}, false}, {bin("+", num(1), num(2)), true}, {bin("<>", num(1), num(2)), true}, {bin("==", num(1), num(2)), false}, {bin("%", num(1), num(2)), false}, {api.Expr{Kind: api.XBinary, Text: "+", Kids: []api.Expr{num(1)}}, false}, {post(num(1)), true}, {api.Expr{Kind: api.XPost, Text: "-", Kids: []api.Expr{num(1)}}, false},
		{call("SUM"), true}, {call("A.B_9"), true}, {call("sum"), false}, {call("9A"), false}, {call(""), false}, {call("_A"), false}, {call("A$"), false}, {call(strings.Repeat("A", 40)), true}, {call(strings.Repeat("A", 41)), false}, {call("F", many...), true}, {call("F", append(many[:30:30], num(1))...), false}, {call("F", num(-1)), false},
		{api.Expr{Kind: api.XNumber, Text: "x"}, false}, {api.Expr{Kind: api.XNumber, Is: true}, false}, {api.Expr{Kind: api.XNumber, Fail: 1}, false}, {api.Expr{Kind: api.XText, Bits: 1}, false}, {api.Expr{Kind: api.XCell, B: at("B1").A}, false}, {api.Expr{Kind: api.XBool, A: api.Ref{AbsCol: true}}, false}, {api.Expr{Kind: api.XNumber, Kids: many[:1]}, false}, {api.Expr{Kind: api.XNumber, Kids: []api.Expr{}}, true}, {api.Expr{Kind: api.XUnary, Text: "-", Bits: 1, Kids: many[:1]}, false},
		{deep(100), true}, {deep(101), false}, {endless[0], false}, {call("F", call("F", many...), call("F", many...), call("F", many...), call("F", many...), call("F", many...), call("F", many...), call("F", many...), call("F", many...), call("F", many...), call("F", many...), call("F", many...), call("F", many...), call("F", many...), call("F", many...), call("F", many...), call("F", many...), num(1), num(1), num(1)), true},
	} {
		if Right(c.e) != c.ok {
			t.Error(i, c.ok)
		}
		if s := reader("en").Print(c.e); (s != "") != c.ok {
			t.Error(i, s)
		}
	}
	wide := make([]api.Expr, 1<<20)
	for i, c := range []struct {
		e           api.Expr
		nodes, deep int
	}{{num(1), 1, 1}, {deep(1000), 1000, 1000}, {deep(1001), 1001, 0}, {endless[0], 1001, 0}, {call("F", wide...), 1001, 0}, {call("F", wide[:999]...), 1000, 2}, {call("F", wide[:1000]...), 1001, 0}, {api.Expr{}, 1, 1}, {bin("+", call("SUM", area("A1", "B2"), num(1)), num(2)), 5, 3}} {
		if n, d := Size(c.e); n != c.nodes || d != c.deep {
			t.Error(i, n, d)
		}
	}
	names := []string{"", "#NULL!", "#DIV/0!", "#VALUE!", "#REF!", "#NAME?", "#NUM!", "#N/A", "#CYCLE!", ""}
	for n, s := range names {
		if Fail(n) != s {
			t.Error(n, Fail(n))
		}
	}
	if Fail(-1)+Fail(math.MaxInt)+Fail(math.MinInt) != "" {
		t.Error("names")
	}
}

func TestK2(t *testing.T) {
	for _, c := range []struct {
		name, s string
		want    api.Expr
	}{
		{"en", "1+2*3", bin("+", num(1), bin("*", num(2), num(3)))}, {"en", "-2^2", bin("^", un("-", num(2)), num(2))}, {"en", "a1:$b$2%", post(area("A1", "$B$2"))}, {"en", "sum(1, 2 )", call("SUM", num(1), num(2))}, {"en", `"a""b"&TRUE`, bin("&", txt(`a"b`), is(true))}, {"en", "#N/A", fail(7)}, {"en", "1<>2=3", bin("=", bin("<>", num(1), num(2)), num(3))}, {"en", "A1(2)", call("A1", num(2))},
		{"en", "2^3^4", bin("^", bin("^", num(2), num(3)), num(4))}, {"en", "2^-1", bin("^", num(2), un("-", num(1)))}, {"en", "--1", un("-", un("-", num(1)))}, {"en", "-1%", un("-", post(num(1)))}, {"en", "(1)", num(1)}, {"en", "((1)+2)*3", bin("*", bin("+", num(1), num(2)), num(3))}, {"en", "1-2-3", bin("-", bin("-", num(1), num(2)), num(3))}, {"en", "1&2+3", bin("&", num(1), bin("+", num(2), num(3)))}, {"en", "1=2&3", bin("=", num(1), bin("&", num(2), num(3)))}, {"en", "1&2>3", bin(">", bin("&", num(1), num(2)), num(3))}, {"en", "2*3^4", bin("*", num(2), bin("^", num(3), num(4)))}, {"en", "2^3/4", bin("/", bin("^", num(2), num(3)), num(4))}, {"en", "2+3*4", bin("+", num(2), bin("*", num(3), num(4)))}, {"en", "AZaz9()+z1", bin("+", call("AZAZ9"), at("Z1"))}, {"en", "1<=2>=3", bin(">=", bin("<=", num(1), num(2)), num(3))}, {"en", "1%%", post(post(num(1)))}, {"en", "+1", un("+", num(1))},
		{"en", " \t\n\r\u00a01 \u00a0", num(1)}, {"en", "1.5e3", num(1500)}, {"en", "1.e-1", num(0.1)}, {"en", ".5", num(0.5)}, {"en", "5.", num(5)}, {"en", "1E+2", num(100)}, {"en", "0e99999999999999999999", num(0)}, {"en", "1e0000000000000000000000002", num(100)}, {"en", "1e-99999", num(0)}, {"en", "tRuE", is(true)}, {"en", "False", is(false)}, {"en", "TRUE()", call("TRUE")}, {"en", "sum()", call("SUM")}, {"en", "a.b_c1()", call("A.B_C1")}, {"en", `""`, txt("")}, {"en", `""""`, txt(`"`)}, {"en", "\"\xff\n\"", txt("\xff\n")}, {"en", "A1 : B2", area("A1", "B2")}, {"en", "1 <> 2", bin("<>", num(1), num(2))}, {"en", "#DIV/0!+#REF!", bin("+", fail(2), fail(4))}, {"en", "#CYCLE!", fail(8)}, {"en", "1e5", num(1e5)}, {"en", "$a1+A$1", bin("+", at("$A1"), at("A$1"))},
		{"de", "SUM(1,5;2)", call("SUM", num(1.5), num(2))}, {"de", ",5", num(0.5)}, {"fr", "1,5e2", num(150)}, {"sv", "MAX(1;2)", call("MAX", num(1), num(2))}, {"ch", "F(1.5;2)", call("F", num(1.5), num(2))}, {"hi", "F(1.5,2)", call("F", num(1.5), num(2))},
	} {
		if e, err, pos := reader(c.name).Parse(c.s); !reflect.DeepEqual(e, c.want) || err != api.OK || pos != 0 {
			t.Errorf("%s %q: %v %d %d", c.name, c.s, e, err, pos)
		}
	}
}

func TestK2Errors(t *testing.T) {
	rep := strings.Repeat
	for _, c := range []struct {
		name, s string
		e       api.Errno
		at      int
	}{
		{"en", "", api.ErrSyntax, 0}, {"en", "1+", api.ErrSyntax, 2}, {"en", "1 2", api.ErrSyntax, 2}, {"en", "(1", api.ErrSyntax, 2}, {"en", `"a`, api.ErrSyntax, 0}, {"en", "#X", api.ErrSyntax, 0}, {"en", "1e", api.ErrSyntax, 1}, {"en", "  ", api.ErrSyntax, 2}, {"en", "1+ ", api.ErrSyntax, 3}, {"en", "1)", api.ErrSyntax, 1}, {"en", "()", api.ErrSyntax, 1}, {"en", "F(1,)", api.ErrSyntax, 4}, {"en", "F(,1)", api.ErrSyntax, 2}, {"en", "F(1;2)", api.ErrSyntax, 3}, {"en", "1,2", api.ErrSyntax, 1}, {"de", "1.5", api.ErrSyntax, 1}, {"de", "F(1,2,3)", api.ErrSyntax, 5}, {"en", "*1", api.ErrSyntax, 0}, {"en", "1 <  > 2", api.ErrSyntax, 5}, {"en", "A1:", api.ErrSyntax, 3}, {"en", "A1:1", api.ErrSyntax, 3}, {"en", "A1:TRUE", api.ErrSyntax, 3}, {"en", "A1:false", api.ErrSyntax, 3}, {"en", "A1:B2(", api.ErrSyntax, 3}, {"en", "A1:foo(1)", api.ErrSyntax, 3}, {"en", "A1:B2:C3", api.ErrSyntax, 5}, {"en", "TRUE:A1", api.ErrSyntax, 4}, {"en", "A1:(B2)", api.ErrSyntax, 3}, {"en", "1\u202f", api.ErrSyntax, 1}, {"en", "1\xa0", api.ErrSyntax, 1}, {"en", "é", api.ErrSyntax, 0}, {"en", "A1 (2)", api.ErrSyntax, 3}, {"en", ".", api.ErrSyntax, 0}, {"en", "#N/A1", api.ErrSyntax, 4}, {"en", "#n/a", api.ErrSyntax, 0}, {"en", "1 foo", api.ErrSyntax, 2}, {"en", "1 1e999", api.ErrSyntax, 2}, {"en", "1 A1:ZZ1", api.ErrSyntax, 2}, {"en", "(1 ZZ1", api.ErrSyntax, 3}, {"en", "1=", api.ErrSyntax, 2}, {"en", "==1", api.ErrSyntax, 0}, {"en", "1%2", api.ErrSyntax, 2}, {"en", "\"a\"\"", api.ErrSyntax, 0},
		{"en", "foo", api.ErrName, 0}, {"en", "sum (1)", api.ErrName, 0}, {"en", "a.1.", api.ErrName, 0}, {"en", "$", api.ErrName, 0}, {"en", "A0", api.ErrName, 0}, {"en", "A$(1)", api.ErrName, 0}, {"en", "$A(1)", api.ErrName, 0}, {"en", "A1:foo", api.ErrName, 3}, {"en", "1+foo+", api.ErrName, 2}, {"en", "1+" + rep("A", 41) + "()", api.ErrName, 2}, {"en", "A1.5", api.ErrName, 0}, {"en", "TRUE1", api.ErrName, 0}, {"en", "A1:A0", api.ErrName, 3},
		{"en", "ZZ1", api.ErrCell, 0}, {"en", "A1:ZZ1", api.ErrCell, 3}, {"en", "A1001", api.ErrCell, 0}, {"en", "ZZ1:foo(", api.ErrCell, 0},
		{"en", "1e999", api.ErrOver, 0}, {"en", "2*1e309", api.ErrOver, 2}, {"en", "1e999 2", api.ErrOver, 0}, {"en", "1e99999999999999999999", api.ErrOver, 0}, {"en", "1e-100001", api.ErrOver, 0}, {"en", "1e-99999999999999999999", api.ErrOver, 0},
		{"en", rep("(", 100) + "1" + rep(")", 100), api.OK, 0}, {"en", rep("(", 101) + "1" + rep(")", 101), api.ErrDeep, 100}, {"en", rep("-", 101) + "1", api.ErrDeep, 100}, {"en", rep("-", 100) + "1", api.ErrDeep, 0}, {"en", rep("-", 99) + "1", api.OK, 0}, {"en", rep("-", 60) + rep("(", 41), api.ErrDeep, 100}, {"en", rep("F(", 101), api.ErrDeep, 201}, {"en", rep("F(", 100) + "-1", api.ErrDeep, 200}, {"en", rep("F(", 100) + "foo", api.ErrName, 200}, {"en", rep("F(", 99) + "1" + rep(")", 99), api.OK, 0}, {"en", rep("F(", 100) + "1" + rep(")", 100), api.ErrDeep, 0}, {"en", rep("(1)+", 200) + "1" + rep("%", 99), api.ErrDeep, 0}, {"en", "1" + rep("%", 100), api.ErrDeep, 0}, {"en", "1" + rep("%", 99), api.OK, 0}, {"en", "1" + rep("+1", 100), api.ErrDeep, 0}, {"en", "1" + rep("+1", 99), api.OK, 0}, {"en", rep("-1*", 50) + "1", api.OK, 0}, {"en", rep("-(1)*", 90) + rep("(", 100) + "1" + rep(")", 100), api.OK, 0},
		{"en", "F(1" + rep(",1", 29) + ")", api.OK, 0}, {"en", "F(1" + rep(",1", 30) + ")", api.ErrMany, 61}, {"en", "F(1" + rep(",1", 29) + ",", api.ErrMany, 61}, {"en", "1" + rep("+1", 250), api.ErrMany, 0}, {"en", "1" + rep("+1", 250) + " 1", api.ErrSyntax, 502},
		{"en", rep(" ", 1001), api.ErrLong, 0}, {"en", rep(" ", 999) + "1", api.OK, 0}, {"en", `"` + rep("a", 998) + `"`, api.OK, 0},
	} {
		e, err, pos := reader(c.name).Parse(c.s)
		if err != c.e || pos != c.at || c.e != api.OK && !reflect.DeepEqual(e, api.Expr{}) {
			t.Errorf("%s %q: %d %d, not %d %d", c.name, c.s, err, pos, c.e, c.at)
		}
	}
}

func TestK3(t *testing.T) {
	for _, c := range []struct {
		name string
		e    api.Expr
		want string
	}{
		{"de", call("SUM", num(0.5), area("A1", "B2")), "SUM(0,5;A1:B2)"}, {"en", un("-", bin("^", num(2), num(2))), "-(2^2)"}, {"en", bin("^", un("-", num(2)), num(2)), "-2^2"}, {"en", bin("-", bin("-", num(1), num(2)), num(3)), "1-2-3"}, {"en", bin("-", num(1), bin("-", num(2), num(3))), "1-(2-3)"},
		{"en", bin("*", bin("+", num(1), num(2)), num(3)), "(1+2)*3"}, {"en", bin("+", num(1), bin("*", num(2), num(3))), "1+2*3"}, {"en", post(un("-", num(1))), "(-1)%"}, {"en", un("-", post(num(1))), "-1%"}, {"en", post(post(num(1))), "1%%"}, {"en", un("-", un("+", num(1))), "-+1"}, {"en", bin("^", num(2), un("-", num(1))), "2^-1"}, {"en", bin("=", num(1), bin("=", num(2), num(3))), "1=(2=3)"}, {"en", un("+", bin("&", num(1), num(2))), "+(1&2)"}, {"en", post(bin("+", num(1), num(2))), "(1+2)%"}, {"en", post(call("F")), "F()%"},
		{"en", txt(`a"b`), `"a""b"`}, {"en", is(true), "TRUE"}, {"en", is(false), "FALSE"}, {"en", fail(2), "#DIV/0!"}, {"en", at("$b$2"), "$B$2"}, {"en", area("b$2", "$A1"), "B$2:$A1"}, {"en", num(1e23), "1e+23"}, {"sv", num(1.5e-10), "1,5e-10"}, {"en", call("F", bin("=", num(1), num(2)), call("G")), "F(1=2,G())"}, {"fr", call("F", num(1), num(2)), "F(1;2)"}, {"en", num(-1), ""}, {"en", api.Expr{}, ""},
	} {
		if s := reader(c.name).Print(c.e); s != c.want {
			t.Errorf("%q: %q", c.want, s)
		}
	}
}

// some is a random valid tree.
func some(r *rand.Rand, deep int) api.Expr {
	kind := r.Intn(10) + 1
	if deep == 0 {
		kind = r.Intn(6) + 1
	}
	ref := func() api.Ref {
		return api.Ref{Col: r.Intn(64), Row: r.Intn(1000), AbsCol: r.Intn(2) == 0, AbsRow: r.Intn(2) == 0}
	}
	e := api.Expr{Kind: kind}
	switch kind {
	case api.XNumber:
		e.Bits = []uint64{r.Uint64() &^ api.NegZero, math.Float64bits(float64(r.Intn(1000)) / 8)}[r.Intn(2)]
		if float.Kind(e.Bits) >= float.Endless {
			e.Bits = 0
		}
	case api.XText:
		e.Text = []string{"", "a", `"`, `""`, "é\x00", "TRUE", "\xff(,;"}[r.Intn(7)]
	case api.XBool:
		e.Is = r.Intn(2) == 0
	case api.XFail:
		e.Fail = r.Intn(8) + 1
	case api.XRange:
		e.A, e.B = ref(), ref()
	case api.XCell:
		e.A = ref()
	case api.XUnary:
		e = un([]string{"-", "+"}[r.Intn(2)], some(r, deep-1))
	case api.XBinary:
		e = bin(strings.Fields("= <> < <= > >= & + - * / ^")[r.Intn(12)], some(r, deep-1), some(r, deep-1))
	case api.XPost:
		e = post(some(r, deep-1))
	case api.XCall:
		e.Text = []string{"SUM", "A1", "TRUE", "X.Y_2", "E"}[r.Intn(5)]
		for range r.Intn(4) {
			e.Kids = append(e.Kids, some(r, deep-1))
		}
	}
	return e
}

func TestK4(t *testing.T) {
	r := rand.New(rand.NewSource(4))
	for range 5000 {
		e := some(r, r.Intn(6))
		p := reader(locale.Names()[r.Intn(6)])
		s := p.Print(e)
		if len(s) > api.MaxEntry || !Right(e) {
			continue
		}
		if again, err, _ := p.Parse(s); err != api.OK || !reflect.DeepEqual(again, e) {
			t.Fatalf("%q: %d %v %v", s, err, e, again)
		}
	}
	parts := strings.Split(`1|1.5|2,5|"a"|A1|$B$2|TRUE|sum(|F(|(|)|)|,|;|+|-|*|^|%|&|<>|=|:| |#N/A|1e5|e|foo|"|é`, "|")
	for range 100000 {
		var b strings.Builder
		for range r.Intn(10) {
			b.WriteString(parts[r.Intn(len(parts))])
		}
		p := reader(locale.Names()[1])
		if r.Intn(10) > 0 {
			p = &Reader{point: ".", list: ","}
		}
		e, err, pos := p.Parse(b.String())
		if err != api.OK {
			if pos < 0 || pos > b.Len() {
				t.Fatalf("%q: %d %d", b.String(), err, pos)
			}
			continue
		}
		s := p.Print(e)
		if again, err, _ := p.Parse(s); !Right(e) || err != api.OK || !reflect.DeepEqual(again, e) {
			t.Fatalf("%q: %q %d", b.String(), s, err)
		}
	}
}

// P1: other locales end, too.
func TestK2Locale(t *testing.T) {
	for _, l := range []locale.Locale{{}, {Decimal: "(", List: ")"}, {Decimal: "e", List: "+"}, {List: "ab"}} {
		for _, s := range []string{"1.5+2", "F(1,2)", "(1)", "e5e5", "1(2", "F(1ab2)"} {
			e, _, _ := New(l).Parse(s)
			_ = New(l).Print(e)
		}
	}
	_, _, _ = (&Reader{}).Parse("1.5")
}
