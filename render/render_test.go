package render

import (
	"math"
	"math/rand"
	"strings"
	"testing"

	"tabard/api"
	"tabard/entry"
	"tabard/exact"
	"tabard/locale"
	"tabard/pattern"
	"tabard/read"
)

func bitsOf(x float64) uint64 { return math.Float64bits(x) }

func find(name string) locale.Locale {
	l, e := locale.Find(name)
	if e != api.OK {
		panic(name)
	}
	return l
}

func parse(s string) pattern.Pattern {
	p, e, _ := pattern.Parse(s)
	if e != api.OK {
		panic(s)
	}
	return p
}

func shows(t *testing.T, name string, rows [][]any) {
	for _, row := range rows {
		p := row[0].(string)
		for i := 1; i < len(row); i += 2 {
			x, ok := row[i].(float64)
			if !ok {
				x = float64(row[i].(int))
			}
			if s, e := Number(parse(p), bitsOf(x), find(name)); s != row[i+1] || e != api.OK {
				t.Errorf("%s %q for %v: %q %d, not %q", name, p, x, s, e, row[i+1])
			}
		}
	}
}

var neg0 = math.Copysign(0, -1)

func TestR1Number(t *testing.T) {
	shows(t, "en", [][]any{
		{"0.00", 1.005, "1.00", -1.5, "-1.50", -0.001, "0.00", neg0, "0.00", 0.125, "0.13", -0.005, "-0.01", 1e21, "1000000000000000000000.00"}, {"#,##0.0#", 1234.5, "1,234.5", 1234.567, "1,234.57", 0, "0.0", -1e6, "-1,000,000.0"}, {"#", 0, "", 5, "5", 0.4, "", -0.6, "-1"}, {"000-00", 1234567, "12345-67", 5, "000-05", -12, "-000-12"},
		{"0%", 0.125, "13%", -0.005, "-1%", -0.0049, "0%"}, {"0,.0", 12345, "12.3", 0, "0.0"}, {"#,##0;(#,##0);\"-\"", -1234, "(1,234)", 0, "-", neg0, "-", 1234, "1,234", -0.1, "(0)"},
		{"00000", 12, "00012", -12, "-00012"}, {"0,000", 12, "0,012", 1234567, "1,234,567"}, {"?,???", 12, "  12", 1234, "1,234"}, {"#,###", 12, "12", 0, ""}, {"?0?", 5, " 05"}, {"0??", 5, "005"}, {"?#0#?", 7, " 007"}, {"#?", 0, " "},
		{".00", 0.5, ".50", 12.5, "12.50", -0.001, ".00"}, {"$.0", 12.34, "$12.3"}, {"0.", 5, "5."}, {"-.#", 0, "-."}, {"0.0?", 1.5, "1.5 ", 1.25, "1.25"}, {"0.?#", 1, "1. ", 1.05, "1.05"}, {"0.#0#", 1.1, "1.10", 1, "1.00", 1.001, "1.001"}, {"0.##", 1, "1.", 1.5, "1.5"}, {"0.?-?", 1.5, "1.5- "},
		{"0,0,", 1234567, "1,235"}, {"0,,", 1499999, "1", 1500000, "2"}, {"0,,,,,,,,,", 1e27, "1"}, {"0,%", 1000, "100%"}, {"\"a\"0\"b\"0\"c\"", 123, "a12b3c"}, {"$0.00", -3, "-$3.00"}, {"(0)", -3, "-(3)"},
		{"0;0", neg0, "0", -1, "1", 0, "0"}, {"0;;", -1, "", 0, "", 1, "1"}, {"0;\"neg\"", -1, "neg", 1, "1"}, {"0;0.0;0.00;@", -1, "1.0", 0, "0.00", 1, "1"}, {"0.000000000000000000000000000000", 0.1, "0.100000000000000005551115123126"},
	})
	shows(t, "hi", [][]any{{"#,##0", 12345678, "1,23,45,678"}, {"0,00,00,00,000", 5, "0,00,00,00,005"}})
	shows(t, "sv", [][]any{{"#,##0.0", -1234.5, "\u22121\u00a0234,5"}, {"$0", 5, "kr5"}})
	shows(t, "de", [][]any{{"#,##0.00 $", 1234.5, "1.234,50 €"}})
}

func TestR1Others(t *testing.T) {
	shows(t, "en", [][]any{
		{"0.00E+00", 12345, "1.23E+04", 0, "0.00E+00", -0.00012345, "-1.23E-04", neg0, "0.00E+00", 9.999, "1.00E+01", 1e300, "1.00E+300"}, {"##0.0E+0", 12345, "12.3E+3", 999950, "1.0E+6", 0.5, "500.0E-3", 0.01, "10.0E-3", 1000, "1.0E+3", 999, "999.0E+0"}, {"0E-0", 0.5, "5E-1", 50, "5E1", 1, "1E0"}, {".00E+0", 12.5, "1.25E+1", 0.125, "1.25E-1"}, {"0%E+0", 0.5, "5%E+1"}, {"0.0E+0-0\"x\"", 12345, "1.2E+04-x"}, {"00E+0", 5, "05E+0", 123, "01E+2"}, {"?0E+0", 5, " 5E+0"}, {"0E+0000", 1e100, "1E+0100"}, {"#E+0", 0, "E+0"}, {"0E+0;(0E-0)", -20, "(2E1)"},
		{"# ?/?", 3.25, "3 1/4", 3, "3", 0.5, " 1/2", 0, "", -0.5, "- 1/2", 0.97, "1", -0.01, ""}, {"?/?", 3.25, "13/4", 0, " /1", -3, "-3/1"}, {"# ??/??", 0.25, "  1/4", 3.14159, "3 14/99", 3.143, "3  1/7"}, {"0 0/0-0\"x\"", 3, "3x", 3.5, "3 1/2-x"}, {"0 00/00", 1.5, "1 01/2"}, {"0 \"and\" ?/?", 1.5, "1 and 1/2", 2, "2"}, {"#/#", 0, "/1", 1e20, "100000000000000000000/1"}, {"$# ?/?\"!\"", 2, "$2!"}, {"0;# ?/?", -1.5, "1 1/2"},
		{"$General", -5, "-$5", neg0, "$0", 1e-300, "$1E-300", -1e-300, "-$1E-300"}, {"General;General", -5, "5"}, {"General", 0.1 + 0.2, "0.3"}, {"\"x\"", -5, "x", 0, "x"}, {"@", -5, "-5", neg0, "-0", 1.5, "1.5"}, {"@\"a\"@", 2, "2a2"}, {"", -5, ""}, {";;;@", 5, ""},
	})
	shows(t, "de", [][]any{{"General\" kg\"", -1.5, "-1,5 kg"}, {"0.0E+0", 1.5, "1,5E+0"}, {"@", 1.5, "1,5"}})
	shows(t, "en", [][]any{{"# ????/????", 0.0001, "    1/9999", 0.00001, ""}})
}

func TestR1Errors(t *testing.T) {
	bad := pattern.Pattern{}
	for _, x := range []uint64{api.NaN, api.Inf, api.NegInf, 0xFFF0000000000001} {
		if s, e := Number(bad, x, find("en")); s != "" || e != api.ErrPattern {
			t.Error(s, e)
		}
		if s, e := Number(parse("0"), x, find("en")); s != "" || e != api.ErrNumber {
			t.Error(s, e)
		}
	}
	if s, e := Number(pattern.Pattern{Sections: make([]pattern.Section, 5)}, 0, find("en")); s != "" || e != api.ErrPattern {
		t.Error(s, e)
	}
	// P1: other locales end, too.
	for _, l := range []locale.Locale{{}, {Sizes: []int{0}}, {Sizes: []int{-1, 2}, Group: "x"}} {
		for _, p := range []string{"#,##0.00", "0.0E+0", "# ?/?", "@", "General"} {
			_, _ = Number(parse(p), bitsOf(-1234567.5), l)
		}
	}
}

func TestR2(t *testing.T) {
	for _, c := range []struct{ p, s, want string }{
		{"@\"!\"", "a", "a!"}, {"0;0;0;\"<\"@\">\"", "a", "<a>"}, {"0", "a", "a"}, {"0;0;0;", "a", ""}, {"@@", "é", "éé"}, {"0;0", "a", "a"}, {"General", "a", "a"}, {"\"x\"", "a", "a"}, {";;", "a", "a"}, {";;;$", "a", "$"}, {";;;\"x\"", "", "x"}, {"@", "\xff", "\xff"}, {"", "a", "a"},
	} {
		if s, e := Text(parse(c.p), c.s, find("en")); s != c.want || e != api.OK {
			t.Errorf("%q: %q %d", c, s, e)
		}
	}
	if s, e := Text(pattern.Pattern{}, "a", find("en")); s != "" || e != api.ErrPattern {
		t.Error(s, e)
	}
}

func TestR3(t *testing.T) {
	r := rand.New(rand.NewSource(3))
	numbers := read.New()
	all := []string{"0", "#", "0.00", "#,##0.###", "?,???.??", "0.0E+0", "##0.00E-0", "# ?/?", "?/??", "General", "0%", "0,.0", "$0.0"}
	for range 20000 {
		x := bitsOf(math.Ldexp(r.Float64()-0.5, r.Intn(60)-20))
		if r.Intn(8) == 0 {
			x = bitsOf(float64(r.Intn(2000)-1000) / 8)
		}
		l := find(locale.Names()[r.Intn(6)])
		p := parse(all[r.Intn(len(all))])
		a, _ := Number(p, x&^api.NegZero, l)
		b, _ := Number(p, x|api.NegZero, l)
		if a != b && l.Minus+a != b {
			t.Fatalf("%v %x: %q %q", p, x, a, b)
		}
		n := r.Intn(6)
		text := "0"
		if n > 0 {
			text += "." + strings.Repeat("0", n)
		}
		s, _ := Number(parse(text), x, l)
		d, _ := exact.Place(x, n, api.Away)
		if d.Digits == "" {
			d.Neg = false
		}
		want, _ := numbers.Bits(d)
		if got, e := entry.New(l).Enter(s); got.Bits != want || e != api.OK {
			t.Fatalf("%s %q %x: %q %x %d", l.Name, text, x, s, got.Bits, e)
		}
	}
}
