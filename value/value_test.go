package value

import (
	"math"
	"math/rand"
	"strings"
	"testing"

	"tabard/api"
	"tabard/arith"
	"tabard/exact"
	"tabard/float"
	"tabard/locale"
	"tabard/read"
	"tabard/root"
)

func ops(name string) *Ops {
	l, e := locale.Find(name)
	if e != api.OK {
		panic(name)
	}
	return New(l)
}

func num(x float64) api.Value {
	return api.Value{Kind: api.Number, Bits: math.Float64bits(x)}
}

func txt(s string) api.Value { return api.Value{Kind: api.Text, Text: s} }

func fail(n int) api.Value { return api.Value{Kind: api.Fail, Fail: n} }

var (
	none = api.Value{}
	yes  = api.Value{Kind: api.Bool, Is: true}
	no   = api.Value{Kind: api.Bool}
	neg0 = math.Copysign(0, -1)
)

func TestU1(t *testing.T) {
	for i, c := range []struct {
		v  api.Value
		ok bool
	}{
		{none, true}, {num(1), true}, {num(neg0), true}, {num(math.Inf(1)), false}, {num(math.NaN()), false}, {yes, true}, {no, true}, {txt(""), true}, {txt(strings.Repeat("\xff", 1000)), true}, {txt(strings.Repeat("a", 1001)), false}, {fail(1), true}, {fail(8), true}, {fail(0), false}, {fail(9), false}, {fail(-1), false}, {api.Value{Kind: 5}, false}, {api.Value{Kind: -1}, false},
		{api.Value{Bits: 1}, false}, {api.Value{Text: "a"}, false}, {api.Value{Kind: api.Number, Is: true}, false}, {api.Value{Kind: api.Number, Text: "a"}, false}, {api.Value{Kind: api.Bool, Fail: 1}, false}, {api.Value{Kind: api.Text, Bits: 1}, false}, {api.Value{Kind: api.Fail, Fail: 1, Is: true}, false},
	} {
		if Right(c.v) != c.ok {
			t.Error(i, c.v)
		}
	}
	for _, x := range []uint64{api.NaN, api.Inf, api.NegInf, 0xFFF0000000000001} {
		if v := Number(x); v != fail(api.FailNum) {
			t.Error(v)
		}
	}
	if Number(api.NegZero) != num(neg0) || Number(api.Most).Bits != api.Most || Text(strings.Repeat("a", 1000)).Kind != api.Text || Text(strings.Repeat("a", 1001)) != fail(api.FailValue) || Bool(true) != yes || Bool(false) != no || Fail(77) != fail(77) || Fail(-5) != fail(-5) {
		t.Error("makers")
	}
}

func TestU2(t *testing.T) {
	for i, c := range []struct {
		name  string
		v     api.Value
		x     float64
		xFail int
		is    bool
		bFail int
		s     string
		sFail int
	}{
		{"en", none, 0, 0, false, 0, "", 0}, {"en", num(0.5), 0.5, 0, true, 0, "0.5", 0}, {"de", num(1.5), 1.5, 0, true, 0, "1,5", 0}, {"en", num(neg0), neg0, 0, false, 0, "-0", 0}, {"en", yes, 1, 0, true, 0, "TRUE", 0}, {"en", no, 0, 0, false, 0, "FALSE", 0}, {"en", txt("1,234.5"), 1234.5, 0, false, 3, "1,234.5", 0}, {"de", txt("1.234,5"), 1234.5, 0, false, 3, "1.234,5", 0}, {"de", txt("1.5"), 0, 3, false, 3, "1.5", 0}, {"en", txt("TRUE"), 0, 3, true, 0, "TRUE", 0}, {"en", txt("True"), 0, 3, true, 0, "True", 0}, {"en", txt("fALSE"), 0, 3, false, 0, "fALSE", 0}, {"en", txt("yes"), 0, 3, false, 3, "yes", 0}, {"en", txt(""), 0, 3, false, 3, "", 0}, {"en", txt("1e400"), 0, 3, false, 3, "1e400", 0}, {"en", txt("5%"), 0.05, 0, false, 3, "5%", 0}, {"en", txt(" TRUE"), 0, 3, false, 3, " TRUE", 0}, {"en", fail(7), 0, 7, false, 7, "", 7}, {"en", txt("tr\u00fce"), 0, 3, false, 3, "tr\u00fce", 0}, {"en", num(0.1 + 0.2), 0.1 + 0.2, 0, true, 0, "0.3", 0},
	} {
		o := ops(c.name)
		x, xFail := o.ToNumber(c.v)
		is, bFail := o.ToBool(c.v)
		s, sFail := o.ToText(c.v)
		if x != math.Float64bits(c.x) || xFail != c.xFail || is != c.is || bFail != c.bFail || s != c.s || sFail != c.sFail {
			t.Error(i, x, xFail, is, bFail, s, sFail)
		}
	}
	// P3: Ops don't keep the caller's Sizes.
	l, _ := locale.Find("en")
	o := New(l)
	l.Sizes[0] = 1
	if x, f := o.ToNumber(txt("1,234")); x != math.Float64bits(1234) || f != 0 {
		t.Error(x, f)
	}
}

func TestU3(t *testing.T) {
	o := ops("en")
	for _, c := range []struct {
		a, b api.Value
		want int
	}{
		{txt("a"), txt("B"), -1}, {num(2), txt("1"), -1}, {yes, txt("z"), 1}, {none, txt(""), 0}, {none, num(-1), 1}, {txt("ABC"), txt("abc"), 0}, {txt("ab"), txt("ABC"), -1}, {txt("["), txt("a"), 1}, {txt("_"), txt("Z"), 1}, {txt("\xff"), txt("z"), 1}, {no, yes, -1}, {yes, yes, 0}, {none, none, 0}, {none, no, 0}, {none, yes, -1}, {none, num(0), 0}, {none, num(neg0), 0}, {none, txt("a"), -1}, {num(neg0), num(0), 0}, {num(1), num(2), -1}, {num(1e300), txt(""), -1}, {num(5), no, -1}, {fail(1), num(1), 0}, {num(1), fail(1), 0}, {fail(1), fail(2), 0}, {fail(3), none, 0}, {txt("é"), txt("É"), 1}, {txt("z"), txt("Z"), 0}, {txt("a"), txt("A"), 0}, {txt("`"), txt("@"), 1}, {txt("{"), txt("["), 1},
	} {
		if x := o.Compare(c.a, c.b); x != c.want {
			t.Error(c, x)
		}
		if x := o.Compare(c.b, c.a); x != -c.want {
			t.Error(c, x)
		}
	}
}

func TestU4(t *testing.T) {
	for _, c := range []struct {
		op   string
		a    api.Value
		want api.Value
	}{
		{"-", num(5), num(-5)}, {"-", none, num(neg0)}, {"-", txt("1.5"), num(-1.5)}, {"-", txt("x"), fail(3)}, {"-", yes, num(-1)}, {"%", num(50), num(0.5)}, {"%", txt("5%"), num(0.0005)}, {"%", none, num(0)}, {"+", txt("x"), txt("x")}, {"+", none, none}, {"+", fail(7), fail(7)}, {"-", fail(7), fail(7)}, {"!", fail(7), fail(7)}, {"!", num(1), fail(5)}, {"", txt("x"), fail(5)}, {"*", num(1), fail(5)},
	} {
		if v := ops("en").Unary(c.op, c.a); v != c.want {
			t.Error(c, v)
		}
	}
	for _, c := range []struct {
		a    api.Value
		op   string
		b    api.Value
		want api.Value
	}{
		{txt("5"), "+", num(1), num(6)}, {num(1), "/", num(0), fail(2)}, {num(1), "/", num(neg0), fail(2)}, {num(0), "/", num(0), fail(2)}, {num(1), "/", none, fail(2)}, {num(1), "-", num(3), num(-2)}, {num(3), "*", num(0.1), num(0.30000000000000004)}, {num(1e200), "*", num(1e200), fail(6)}, {num(1e308), "+", num(1e308), fail(6)}, {num(1), "/", num(3), num(1.0 / 3)}, {num(1e300), "/", num(1e-300), fail(6)}, {none, "+", none, num(0)}, {txt("x"), "+", txt("y"), fail(3)}, {num(1), "+", txt("x"), fail(3)},
		{num(2), "^", num(-1), num(0.5)}, {num(0), "^", num(0), fail(6)}, {num(0), "^", num(neg0), fail(6)}, {num(0), "^", num(-1), fail(2)}, {num(neg0), "^", num(-0.5), fail(2)}, {num(0), "^", num(0.5), num(0)}, {num(0), "^", num(0.3), fail(6)}, {num(4), "^", num(0.5), num(2)}, {num(2), "^", num(0.3), fail(6)}, {num(-8), "^", num(0.5), fail(6)}, {num(1), "^", num(1e6), num(1)}, {num(1), "^", num(-1e6), num(1)}, {num(1), "^", num(1e6 + 1), fail(6)}, {num(1), "^", num(-1e6 - 1), fail(6)}, {num(1), "^", num(1e300), fail(6)}, {num(2), "^", num(1e6), fail(6)}, {num(5), "^", num(0), num(1)}, {num(-2), "^", num(3), num(-8)},
		{num(1), "&", yes, txt("1TRUE")}, {txt(strings.Repeat("a", 600)), "&", txt(strings.Repeat("b", 401)), fail(3)}, {none, "&", none, txt("")}, {txt("a"), "=", txt("A"), yes}, {txt("a"), "<>", txt("A"), no}, {num(1), "<", num(2), yes}, {num(2), "<=", num(2), yes}, {num(1), ">", txt("1"), no}, {num(1), ">=", num(2), no}, {none, "=", txt(""), yes}, {num(2), ">", num(1), yes}, {num(2), ">=", num(2), yes}, {num(1), "<=", num(0), no}, {num(1), "<", num(1), no}, {num(1), ">", num(1), no}, {num(1), "<=", num(2), yes}, {num(1), ">=", num(1), yes}, {num(1), "<>", num(1), no},
		{fail(7), "+", fail(4), fail(7)}, {num(1), "+", fail(4), fail(4)}, {txt("x"), "+", fail(4), fail(4)}, {fail(7), "?", num(1), fail(7)}, {num(1), "?", fail(4), fail(4)}, {num(1), "?", num(1), fail(5)}, {num(1), "", num(1), fail(5)}, {num(1), "%", num(1), fail(5)}, {fail(7), "=", fail(7), fail(7)}, {num(1), "&", fail(2), fail(2)},
	} {
		if v := ops("en").Binary(c.op, c.a, c.b); v != c.want {
			t.Error(c, v)
		}
	}
	if v := ops("de").Binary("&", num(1.5), txt("")); v != txt("1,5") {
		t.Error(v)
	}
}

func some(r *rand.Rand) api.Value {
	x := r.Uint64()
	if float.Kind(x) >= float.Endless {
		x = 0
	}
	return []api.Value{none, yes, no, num(float64(r.Intn(5) - 2)), num(0.5), {Kind: api.Number, Bits: x}, txt(""), txt("a"), txt("B"), txt("12"), txt("TRUE"), fail(r.Intn(8) + 1)}[r.Intn(12)]
}

func TestU5(t *testing.T) {
	r := rand.New(rand.NewSource(5))
	numbers := read.New()
	o := ops("en")
	signs := strings.Fields("= <> < <= > >= & + - * / ^ % ?")
	for range 50000 {
		a, b, c := some(r), some(r), some(r)
		op := signs[r.Intn(len(signs))]
		if v := o.Binary(op, a, b); !Right(v) {
			t.Fatal(a, op, b, v)
		}
		if v := o.Unary(op, a); !Right(v) {
			t.Fatal(op, a, v)
		}
		if o.Compare(a, b) != -o.Compare(b, a) {
			t.Fatal(a, b)
		}
		// An empty value is equal to values of several kinds, which differ from each other.
		if a.Kind != api.Empty && b.Kind != api.Empty && c.Kind != api.Empty && a.Kind != api.Fail && b.Kind != api.Fail && c.Kind != api.Fail && o.Compare(a, b) <= 0 && o.Compare(b, c) <= 0 && o.Compare(a, c) > 0 {
			t.Fatal(a, b, c)
		}
		if a.Kind == api.Number && b.Kind == api.Number && b.Bits<<1 != 0 {
			if o.Binary("*", a, b) != Number(arith.Mul(a.Bits, b.Bits)) || o.Binary("/", a, b) != Number(root.Div(a.Bits, b.Bits)) {
				t.Fatal(a, b)
			}
		}
		if a.Kind != api.Number {
			continue
		}
		s, _ := o.ToText(a)
		d, _ := exact.Sig(a.Bits, 15, api.Away)
		want, _ := numbers.Bits(d)
		if x, f := o.ToNumber(txt(s)); want&^api.NegZero != api.Inf && (x != want || f != 0) {
			t.Fatal(a, s, x, f)
		}
	}
}
