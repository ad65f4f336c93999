package funcs

import (
	"math"
	"math/rand"
	"slices"
	"strings"
	"testing"

	"tabard/api"
	"tabard/locale"
	"tabard/value"
)

func caller(name string) *Caller {
	l, e := locale.Find(name)
	if e != api.OK {
		panic(name)
	}
	return New(l)
}

func num(x float64) api.Value {
	return api.Value{Kind: api.Number, Bits: math.Float64bits(x)}
}

func txt(s string) api.Value { return api.Value{Kind: api.Text, Text: s} }

func fail(n int) api.Value { return api.Value{Kind: api.Fail, Fail: n} }

type none struct{}

func val(v any) api.Value {
	switch v := v.(type) {
	case int:
		return num(float64(v))
	case float64:
		return num(v)
	case string:
		return txt(v)
	case bool:
		return api.Value{Kind: api.Bool, Is: v}
	case api.Value:
		return v
	}
	return api.Value{}
}

// row is an area of so many columns.
func row(cols int, l ...any) Arg {
	a := Arg{Area: true, Cols: cols, Rows: len(l) / cols}
	for _, v := range l {
		a.Cells = append(a.Cells, val(v))
	}
	return a
}

func args(l []any) []Arg {
	r := []Arg{}
	for _, v := range l {
		if a, ok := v.(Arg); ok {
			r = append(r, a)
			continue
		}
		r = append(r, Arg{Cols: 1, Rows: 1, Cells: []api.Value{val(v)}})
	}
	return r
}

type test struct {
	name string
	args []any
	want any
}

func check(t *testing.T, l []test) {
	t.Helper()
	c := caller("en")
	for _, x := range l {
		if v := c.Call(x.name, args(x.args)); v != val(x.want) {
			t.Errorf("%s %v: %v, not %v", x.name, x.args, v, val(x.want))
		}
	}
}

type in = []any

var (
	empty = none{}
	neg0  = math.Copysign(0, -1)
	fNum  = fail(api.FailNum)
	fVal  = fail(api.FailValue)
	fDiv  = fail(api.FailDiv)
	fNA   = fail(api.FailNA)
	fRef  = fail(api.FailRef)
	fName = fail(api.FailName)
)

func TestM1(t *testing.T) {
	for i, c := range []struct {
		a  Arg
		ok bool
	}{
		{row(1, 1), true}, {row(2, 1, empty, "a", fVal), true}, {Arg{Cols: 1, Rows: 1, Cells: []api.Value{num(1)}}, true}, {Arg{}, false}, {Arg{Cols: 1, Rows: 1}, false}, {Arg{Cols: 2, Rows: 1, Cells: make([]api.Value, 2)}, false}, {Arg{Area: true, Cols: 4097, Rows: 1, Cells: make([]api.Value, 4097)}, false}, {Arg{Area: true, Cols: 4096, Rows: 1, Cells: make([]api.Value, 4096)}, true}, {Arg{Area: true, Cols: 1, Rows: 4096, Cells: make([]api.Value, 4096)}, true}, {Arg{Area: true, Cols: 1, Rows: 4097, Cells: make([]api.Value, 4097)}, false}, {Arg{Area: true, Cols: 64, Rows: 64, Cells: make([]api.Value, 4096)}, true}, {Arg{Area: true, Cols: 65, Rows: 64, Cells: make([]api.Value, 65*64)}, false},
		{Arg{Area: true, Cols: 2, Rows: 2, Cells: make([]api.Value, 3)}, false}, {Arg{Area: true, Cols: -1, Rows: -1, Cells: make([]api.Value, 1)}, false}, {Arg{Area: true, Cols: 1 << 32, Rows: 1 << 32}, false}, {Arg{Area: true, Cols: math.MaxInt, Rows: 2}, false}, {row(1, fail(9)), false}, {row(1, math.NaN()), false}, {row(2, 1, strings.Repeat("a", 1001)), false},
	} {
		if Right(c.a) != c.ok {
			t.Error(i)
		}
	}
	l := Names()
	if len(l) != 68 || !slices.IsSorted(l) || len(slices.Compact(slices.Clone(l))) != 68 {
		t.Error(len(l))
	}
	l[0] = "x"
	if Names()[0] != "ABS" {
		t.Error("Names shares memory")
	}
}

// arities are how many arguments the functions take, as the document's table has them; 99 stands for any number.
const arities = "0 0 PI TRUE FALSE NA;0 99 SUM PRODUCT SUMSQ AVERAGE MIN MAX MEDIAN COUNT COUNTA CONCAT;1 99 GCD LCM AND OR XOR;2 99 CHOOSE;" +
	"1 1 COUNTBLANK ABS SIGN INT SQRT EVEN ODD FACT NOT ISBLANK ISNUMBER ISTEXT ISLOGICAL ISERROR ISNA N T ROWS COLUMNS LEN UPPER LOWER TRIM VALUE;" +
	"1 2 TRUNC CEILING FLOOR LEFT RIGHT;2 2 LARGE SMALL ROUND ROUNDUP ROUNDDOWN MOD QUOTIENT POWER IFERROR IFNA MATCH REPT EXACT TEXT;2 3 IF INDEX FIND;3 3 MID SUBSTITUTE"

func TestM2Arity(t *testing.T) {
	c := caller("en")
	all := []string{}
	for _, group := range strings.Split(arities, ";") {
		words := strings.Fields(group)
		for _, name := range words[2:] {
			all = append(all, name)
			for n := range 6 {
				ok := n >= int(words[0][0]-'0') && (words[1] == "99" || n <= int(words[1][0]-'0'))
				least, most, is := arity(name)
				if !is || (least <= n && n <= most) != ok || !ok && c.Call(name, args(slices.Repeat(in{1}, n))) != fVal {
					t.Error(name, n)
				}
			}
		}
	}
	slices.Sort(all)
	if !slices.Equal(all, Names()) {
		t.Error(all)
	}
}

func TestM2Numbers(t *testing.T) {
	check(t, []test{
		{"SUM", in{1, true, "2"}, 4}, {"SUM", in{row(2, 1, true, "2", empty)}, 1}, {"SUM", in{"x"}, fVal}, {"SUM", nil, 0}, {"SUM", in{row(2, 1, fNA), fDiv}, fNA}, {"SUM", in{"x", row(1, fNA)}, fVal}, {"SUM", in{1e308, 1e308}, fNum}, {"SUM", in{empty, neg0}, 0}, {"SUM", in{9007199254740992.0, 1, 1}, 9007199254740992.0},
		{"PRODUCT", nil, 0}, {"PRODUCT", in{row(1, "a")}, 0}, {"PRODUCT", in{2, "3", row(2, 4, empty)}, 24}, {"PRODUCT", in{fDiv}, fDiv}, {"SUMSQ", in{3, 4}, 25}, {"SUMSQ", nil, 0}, {"AVERAGE", in{1, 2}, 1.5}, {"AVERAGE", nil, fDiv}, {"AVERAGE", in{row(1, "a")}, fDiv}, {"AVERAGE", in{row(3, 1, "9", 5)}, 3},
		{"MIN", in{3, row(2, -1, true)}, -1}, {"MAX", in{3, row(2, 7, "9")}, 7}, {"MIN", nil, 0}, {"MAX", in{row(1, empty)}, 0}, {"MAX", in{neg0, 0}, 0}, {"MIN", in{0, neg0}, neg0}, {"MIN", in{5}, 5}, {"MAX", in{-5}, -5}, {"MAX", in{row(1, fRef)}, fRef},
		{"MEDIAN", in{3, 1, 2, 10}, 2.5}, {"MEDIAN", in{3, 1, 2}, 2}, {"MEDIAN", in{5, 1, 4, 2, 3}, 3}, {"MEDIAN", nil, fNum}, {"MEDIAN", in{row(1, "1")}, fNum}, {"MEDIAN", in{0, neg0, neg0}, neg0}, {"MEDIAN", in{"x"}, fVal},
		{"COUNT", in{1, "2", "x", true, empty, fDiv, row(5, 1, "2", true, empty, fDiv)}, 4}, {"COUNT", nil, 0}, {"COUNTA", in{1, "", empty, fDiv, row(2, empty, "a")}, 4}, {"COUNTA", nil, 0}, {"COUNTBLANK", in{row(4, empty, "", 0, " ")}, 2}, {"COUNTBLANK", in{empty}, 1}, {"COUNTBLANK", in{row(5, "", "", 1, true, fDiv)}, 2}, {"COUNTBLANK", in{fDiv}, 0},
		{"LARGE", in{row(4, 3, 1, "9", 2), 1}, 3}, {"LARGE", in{row(3, 3, 1, 2), 3}, 1}, {"SMALL", in{row(3, 3, 1, 2), 2}, 2}, {"SMALL", in{row(3, 3, 1, 2), 0}, fNum}, {"SMALL", in{row(3, 3, 1, 2), 4}, fNum}, {"LARGE", in{row(1, "a"), 1}, fNum}, {"LARGE", in{5, 1.9}, 5}, {"LARGE", in{row(1, fNA), fDiv}, fNA}, {"LARGE", in{row(1, 1), fDiv}, fDiv}, {"LARGE", in{row(1, 1), 1e300}, fNum}, {"SMALL", in{row(1, 1), "x"}, fVal}, {"LARGE", in{"x", fDiv}, fVal},
		{"ABS", in{-2.5}, 2.5}, {"ABS", in{neg0}, 0}, {"ABS", in{"x"}, fVal}, {"ABS", in{row(2, 1, 2)}, fVal}, {"ABS", in{row(1, -1)}, 1}, {"ABS", in{row(1, empty)}, 0}, {"ABS", nil, fVal}, {"ABS", in{1, 2}, fVal}, {"SIGN", in{-3}, -1}, {"SIGN", in{neg0}, 0}, {"SIGN", in{0.1}, 1}, {"INT", in{-1.5}, -2}, {"INT", in{1.9}, 1}, {"INT", in{"2.5"}, 2}, {"SQRT", in{4}, 2}, {"SQRT", in{-1}, fNum}, {"SQRT", in{neg0}, neg0},
		{"EVEN", in{1.5}, 2}, {"EVEN", in{-1}, -2}, {"EVEN", in{2}, 2}, {"EVEN", in{0}, 0}, {"EVEN", in{3.1}, 4}, {"ODD", in{0}, 1}, {"ODD", in{neg0}, 1}, {"ODD", in{1.5}, 3}, {"ODD", in{-2}, -3}, {"ODD", in{3}, 3}, {"ODD", in{0.1}, 1}, {"ODD", in{-0.1}, -1},
	})
}

func TestM2Rounding(t *testing.T) {
	check(t, []test{
		{"TRUNC", in{-1.57, 1}, -1.5}, {"TRUNC", in{-1.57}, -1}, {"ROUND", in{2.345, 2}, 2.35}, {"ROUND", in{-1.5, 0}, -2}, {"ROUND", in{1250, -2}, 1300}, {"ROUND", in{1.005, 2}, 1}, {"ROUND", in{0.1, 1e9}, 0.1}, {"ROUND", in{5e299, -1e9}, 0}, {"ROUNDUP", in{1.21, 1}, 1.3}, {"ROUNDUP", in{-1.21, 1}, -1.3}, {"ROUNDUP", in{1, -400}, fNum}, {"ROUNDUP", in{1, -300}, 1e300}, {"ROUNDDOWN", in{-1.29, 1}, -1.2}, {"ROUNDDOWN", in{19, -1}, 10}, {"ROUND", in{1, 1e300}, fNum}, {"ROUND", in{fDiv, fNA}, fDiv}, {"ROUND", in{1, fNA}, fNA}, {"ROUND", in{-0.4, 0}, neg0}, {"ROUND", in{1}, fVal}, {"TRUNC", in{1, "x"}, fVal},
		{"CEILING", in{2.1}, 3}, {"CEILING", in{2.1, 0.5}, 2.5}, {"CEILING", in{-2.1, 2}, -2}, {"CEILING", in{5, 0}, 0}, {"CEILING", in{2.1, -1}, 2}, {"FLOOR", in{2.9}, 2}, {"FLOOR", in{-2.1, 2}, -4}, {"FLOOR", in{1, neg0}, 0}, {"FLOOR", in{2.1, -1}, 3}, {"FLOOR", in{1, fNA}, fNA},
		{"MOD", in{-7, 3}, 2}, {"MOD", in{7, -3}, -2}, {"MOD", in{7, 3}, 1}, {"MOD", in{6, -3}, 0}, {"MOD", in{-6, 3}, neg0}, {"MOD", in{1, 0}, fDiv}, {"MOD", in{"x", 0}, fVal}, {"MOD", in{1, neg0}, fDiv}, {"QUOTIENT", in{-7, 2}, -3}, {"QUOTIENT", in{7, 2}, 3}, {"QUOTIENT", in{1, 0}, fDiv}, {"QUOTIENT", in{1e300, 1e-300}, fNum}, {"POWER", in{2, 10}, 1024}, {"POWER", in{0, 0}, fNum}, {"POWER", in{0, -1}, fDiv}, {"POWER", in{2, 0.3}, fNum}, {"POWER", in{4, "0.5"}, 2}, {"POWER", in{"x", fDiv}, fVal},
		{"FACT", in{5}, 120}, {"FACT", in{0}, 1}, {"FACT", in{5.9}, 120}, {"FACT", in{-0.5}, 1}, {"FACT", in{-1}, fNum}, {"FACT", in{171}, fNum}, {"FACT", in{170}, factorial170()}, {"GCD", in{12, 18}, 6}, {"GCD", in{0, 5}, 5}, {"GCD", in{0}, 0}, {"GCD", in{row(1, "a")}, 0}, {"GCD", in{-1}, fNum}, {"GCD", in{9007199254740993.0 + 1, 1}, fNum}, {"GCD", in{9007199254740992.0, 4}, 4}, {"GCD", nil, fVal}, {"GCD", in{12.9, "18"}, 6}, {"GCD", in{-1, fDiv}, fDiv}, {"LCM", in{4, 6}, 12}, {"LCM", in{4, 0}, 0}, {"LCM", in{row(1, empty)}, 0}, {"LCM", in{9007199254740992.0, 3}, fNum}, {"LCM", in{9007199254740992.0, 3, 0}, 0}, {"LCM", in{94906267, 94906266}, fNum}, {"LCM", in{94906265, 94906264}, 94906265.0 * 94906264}, {"LCM", in{1e300}, fNum}, {"LCM", in{0, -1}, fNum}, {"LCM", in{7}, 7}, {"LCM", in{9007199254740992.0}, 9007199254740992.0}, {"LCM", in{9007199254740992.0, 2}, 9007199254740992.0},
		{"PI", nil, math.Pi}, {"TRUE", nil, true}, {"FALSE", nil, false}, {"NA", nil, fNA}, {"PI", in{1}, fVal}, {"NOPE", nil, fName}, {"sum", in{1}, fName}, {"", nil, fName},
	})
}

func factorial170() float64 {
	p := 1.0
	for i := 1; i <= 170; i++ {
		p *= float64(i)
	}
	return p
}

func TestM2Logic(t *testing.T) {
	long := strings.Repeat("a", 1000)
	check(t, []test{
		{"AND", in{true, 1, "true"}, true}, {"AND", in{true, 0}, false}, {"OR", in{false, row(3, "TRUE", empty, 0)}, false}, {"OR", in{row(2, "x", 2)}, true}, {"XOR", in{true, true, true}, true}, {"XOR", in{true, true}, false}, {"AND", in{row(1, "TRUE")}, fVal}, {"AND", nil, fVal}, {"AND", in{"x"}, fVal}, {"OR", in{true, fNA}, fNA}, {"AND", in{empty}, false}, {"OR", in{row(2, fRef, 1), fNA}, fRef}, {"XOR", in{row(1, empty)}, fVal},
		{"NOT", in{0}, true}, {"NOT", in{"TRUE"}, false}, {"NOT", in{fDiv}, fDiv}, {"IF", in{true, 1, fDiv}, 1}, {"IF", in{0, 1}, false}, {"IF", in{0, 1, 2}, 2}, {"IF", in{1, row(1, empty)}, empty}, {"IF", in{fNA, 1, 2}, fNA}, {"IF", in{"x", 1, 2}, fVal}, {"IF", in{1, fDiv}, fDiv}, {"IF", in{1, row(2, 1, 2)}, fVal}, {"IF", in{row(2, 1, 1), 1}, fVal}, {"IF", in{1}, fVal},
		{"IFERROR", in{fDiv, 5}, 5}, {"IFERROR", in{3, 5}, 3}, {"IFERROR", in{row(2, 1, 2), 5}, 5}, {"IFERROR", in{fDiv, fNA}, fNA}, {"IFERROR", in{empty, 1}, empty}, {"IFNA", in{fNA, 5}, 5}, {"IFNA", in{fDiv, 5}, fDiv}, {"IFNA", in{1, 5}, 1}, {"CHOOSE", in{2, 1, "b"}, "b"}, {"CHOOSE", in{0, 1}, fVal}, {"CHOOSE", in{3, 1, 2}, fVal}, {"CHOOSE", in{1.9, "a"}, "a"}, {"CHOOSE", in{fNA, 1}, fNA}, {"CHOOSE", in{1, "a", fDiv}, "a"}, {"CHOOSE", in{1}, fVal}, {"CHOOSE", in{1e300, 1}, fNum},
		{"ISBLANK", in{empty}, true}, {"ISBLANK", in{""}, false}, {"ISNUMBER", in{1}, true}, {"ISNUMBER", in{"1"}, false}, {"ISTEXT", in{""}, true}, {"ISLOGICAL", in{false}, true}, {"ISERROR", in{fDiv}, true}, {"ISERROR", in{1}, false}, {"ISERROR", in{row(2, 1, 1)}, true}, {"ISNA", in{fNA}, true}, {"ISNA", in{fDiv}, false}, {"ISTEXT", in{row(1, "a")}, true},
		{"N", in{2}, 2}, {"N", in{true}, 1}, {"N", in{false}, 0}, {"N", in{"5"}, 0}, {"N", in{fDiv}, fDiv}, {"N", in{empty}, 0}, {"T", in{"a"}, "a"}, {"T", in{1}, ""}, {"T", in{fDiv}, fDiv}, {"T", in{empty}, ""},
		{"ROWS", in{row(2, 1, 2, 3, 4, 5, 6)}, 3}, {"COLUMNS", in{row(2, 1, 2, 3, 4, 5, 6)}, 2}, {"ROWS", in{5}, 1}, {"COLUMNS", in{fDiv}, 1}, {"INDEX", in{row(2, 1, 2, 3, 4), 2}, 3}, {"INDEX", in{row(2, 1, 2, 3, 4), 2, 2}, 4}, {"INDEX", in{row(2, 1, empty), 1, 2}, 0}, {"INDEX", in{row(2, 1, 2), 2}, fRef}, {"INDEX", in{row(2, 1, 2), 1, 3}, fRef}, {"INDEX", in{row(2, 1, 2), 0, 1}, fRef}, {"INDEX", in{row(2, 1, 2), 1, -1}, fRef}, {"INDEX", in{7, 1, 1}, 7}, {"INDEX", in{row(1, fDiv), 1}, fDiv}, {"INDEX", in{row(1, 1), "x", fNA}, fVal}, {"INDEX", in{row(1, 1), 1, fNA}, fNA},
		{"MATCH", in{2, row(4, "2", fDiv, 2, 2)}, 3}, {"MATCH", in{"A", row(2, "b", "a")}, 2}, {"MATCH", in{fDiv, row(1, fDiv)}, fDiv}, {"MATCH", in{1, row(2, true, 2)}, fNA}, {"MATCH", in{empty, row(3, 0, "", empty)}, 3}, {"MATCH", in{0, row(2, empty, neg0)}, 2}, {"MATCH", in{row(2, 1, 2), row(1, 1)}, fVal}, {"MATCH", in{5, 5}, 1},
		{"REPT", in{long, 2}, fVal},
	})
}

func TestM2Texts(t *testing.T) {
	rep := strings.Repeat
	check(t, []test{
		{"LEN", in{"abcdé"}, 5}, {"LEN", in{"\xff\xc3a"}, 3}, {"LEN", in{12.5}, 4}, {"LEN", in{empty}, 0}, {"LEN", in{fDiv}, fDiv}, {"LEFT", in{"éa"}, "é"}, {"LEFT", in{"abc", 2}, "ab"}, {"LEFT", in{"abc", 9}, "abc"}, {"LEFT", in{"abc", 0}, ""}, {"LEFT", in{"abc", -1}, fVal}, {"LEFT", in{"abc", 1e18}, "abc"}, {"LEFT", in{"abc", 1e300}, fNum}, {"RIGHT", in{"abé"}, "é"}, {"RIGHT", in{"abc", 2}, "bc"}, {"RIGHT", in{"abc", 9}, "abc"}, {"RIGHT", in{"abc", -1}, fVal}, {"RIGHT", in{"abc", 0}, ""}, {"RIGHT", in{"a\xff", 1}, "\xff"},
		{"MID", in{"abcdé", 4, 9}, "dé"}, {"MID", in{"abc", 2, 1}, "b"}, {"MID", in{"abc", 9, 1}, ""}, {"MID", in{"abc", 0, 1}, fVal}, {"MID", in{"abc", 1, -1}, fVal}, {"MID", in{"abc", -1, 1}, fVal}, {"MID", in{"abc", 9e18, 9e18}, ""}, {"MID", in{"abc", 1, 0}, ""}, {"MID", in{"abc", 1}, fVal}, {"MID", in{fNA, 0, fDiv}, fNA}, {"MID", in{"abc", 0, fDiv}, fDiv},
		{"UPPER", in{"aäz1"}, "AäZ1"}, {"LOWER", in{"AÄZ[@"}, "aÄz[@"}, {"TRIM", in{"  a  b \t"}, "a b \t"}, {"TRIM", in{"   "}, ""}, {"TRIM", in{"\u00a0a"}, "\u00a0a"}, {"REPT", in{"ab", 3}, "ababab"}, {"REPT", in{"ab", 0}, ""}, {"REPT", in{"ab", -1}, fVal}, {"REPT", in{"ab", 500}, rep("ab", 500)}, {"REPT", in{"ab", 501}, fVal}, {"REPT", in{"", 9e18}, ""}, {"REPT", in{"a", 9e18}, fVal}, {"REPT", in{"", -1}, fVal},
		{"FIND", in{"b", "abcb", 3}, 4}, {"FIND", in{"b", "abcb"}, 2}, {"FIND", in{"B", "abcb"}, fVal}, {"FIND", in{"", "abc"}, 1}, {"FIND", in{"", "abc", 4}, 4}, {"FIND", in{"", "abc", 5}, fVal}, {"FIND", in{"a", "abc", 0}, fVal}, {"FIND", in{"é", "aéé", 3}, 3}, {"FIND", in{"\xc3", "é"}, fVal}, {"FIND", in{"\xc3", "é\xc3"}, 2}, {"FIND", in{"abcd", "abc"}, fVal}, {"FIND", in{"", ""}, 1}, {"FIND", in{"a", "a", -1e18}, fVal},
		{"SUBSTITUTE", in{"aaa", "aa", "b"}, "ba"}, {"SUBSTITUTE", in{"abc", "", "x"}, "abc"}, {"SUBSTITUTE", in{"é", "\xa9", "x"}, "\xc3x"}, {"SUBSTITUTE", in{rep("a", 600), "a", "bb"}, fVal}, {"SUBSTITUTE", in{"a.b", ".", ""}, "ab"}, {"SUBSTITUTE", in{"a", fNA, fDiv}, fNA},
		{"CONCAT", in{"a", 1.5, true, row(3, empty, "b", false)}, "a1.5TRUEbFALSE"}, {"CONCAT", nil, ""}, {"CONCAT", in{row(2, "a", fNA), fDiv}, fNA}, {"CONCAT", in{rep("a", 600), rep("a", 401)}, fVal}, {"CONCAT", in{rep("a", 600), rep("a", 401), fNA}, fNA}, {"EXACT", in{"a", "A"}, false}, {"EXACT", in{"1", 1}, true}, {"EXACT", in{fNA, fDiv}, fNA},
		{"TEXT", in{1234.5, "#,##0.00"}, "1,234.50"}, {"TEXT", in{empty, "0.0"}, "0.0"}, {"TEXT", in{"a", `@"!"`}, "a!"}, {"TEXT", in{"a", "0"}, "a"}, {"TEXT", in{true, "@@"}, "TRUETRUE"}, {"TEXT", in{1, "x"}, fVal}, {"TEXT", in{fNA, "x"}, fVal}, {"TEXT", in{fNA, "0"}, fNA}, {"TEXT", in{fNA, fDiv}, fDiv}, {"TEXT", in{rep("a", 501), "@@"}, fVal}, {"TEXT", in{row(2, 1, 2), "0"}, fVal}, {"TEXT", in{1, ""}, ""}, {"TEXT", in{5, 0}, "5"},
		{"VALUE", in{"1,234.5"}, 1234.5}, {"VALUE", in{"x"}, fVal}, {"VALUE", in{true}, fVal}, {"VALUE", in{empty}, fVal}, {"VALUE", in{0.1 + 0.2}, 0.3}, {"VALUE", in{"50%"}, 0.5}, {"VALUE", in{fDiv}, fDiv},
	})
	de := caller("de")
	for _, c := range []test{{"VALUE", in{"1.234,5"}, 1234.5}, {"TEXT", in{1234.5, "#,##0.00"}, "1.234,50"}, {"CONCAT", in{1.5}, "1,5"}, {"SUM", in{"1,5"}, 1.5}} {
		if v := de.Call(c.name, args(c.args)); v != val(c.want) {
			t.Error(c, v)
		}
	}
	// P3: a Caller doesn't keep the caller's Sizes.
	l, _ := locale.Find("en")
	c := New(l)
	l.Sizes[0] = 1
	if v := c.Call("TEXT", args(in{1234, "#,##0"})); v != txt("1,234") {
		t.Error(v)
	}
}

func TestM3(t *testing.T) {
	r := rand.New(rand.NewSource(3))
	some := func() any {
		return []any{empty, true, false, 0, 1, -1, 2.5, 3, 1e300, neg0, "", "a", "TRUE", "12", "0.0", fNA, fDiv, 100.0}[r.Intn(18)]
	}
	c := caller("en")
	for range 30000 {
		name := Names()[r.Intn(68)]
		l := in{}
		for range r.Intn(4) {
			if r.Intn(3) > 0 {
				l = append(l, some())
				continue
			}
			l = append(l, row(2, some(), some(), some(), some()))
		}
		if v := c.Call(name, args(l)); !value.Right(v) {
			t.Fatal(name, l, v)
		}
		// P1: nor do arguments that aren't valid make a panic.
		_ = c.Call(name, []Arg{{Area: true, Cols: 1<<32 + 1, Rows: 1 << 32, Cells: make([]api.Value, r.Intn(3))}, {Cells: []api.Value{{Kind: api.Number, Bits: api.NaN}}}, {Rows: -5}}[:r.Intn(4)])
		_ = (&Caller{}).Call(name, args(l))
	}
	for range 500 {
		n := r.Intn(20) + 1
		a, l := Arg{Area: true, Cols: n, Rows: 1}, []Arg{}
		for range n {
			v := num(math.Ldexp(r.Float64()-0.5, r.Intn(100)))
			a.Cells = append(a.Cells, v)
			l = append(l, Arg{Cols: 1, Rows: 1, Cells: []api.Value{v}})
		}
		if c.Call("SUM", []Arg{a}) != c.Call("SUM", l) {
			t.Fatal(a)
		}
		i := r.Intn(n) + 1
		if c.Call("LARGE", append([]Arg{a}, args(in{i})...)) != c.Call("SMALL", append([]Arg{a}, args(in{n + 1 - i})...)) {
			t.Fatal(a, i)
		}
	}
}
