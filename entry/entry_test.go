package entry

import (
	"math"
	"math/rand"
	"strings"
	"testing"

	"tabard/api"
	"tabard/decimal"
	"tabard/exact"
	"tabard/locale"
	"tabard/read"
)

func bitsOf(x float64) uint64 { return math.Float64bits(x) }

func find(name string) locale.Locale {
	l, e := locale.Find(name)
	if e != api.OK {
		panic(name)
	}
	return l
}

func TestT1(t *testing.T) {
	neg0 := math.Copysign(0, -1)
	for _, c := range []struct {
		name, s string
		x       float64
		want    Entry
	}{
		{"en", "1,234.5", 1234.5, Entry{Grouped: true, Places: 1}}, {"en", "-5", -5, Entry{}}, {"en", "(5)", -5, Entry{}}, {"en", "50%", 0.5, Entry{Kind: Percent}}, {"en", "$3", 3, Entry{Kind: Money}}, {"en", "3 $", 3, Entry{Kind: Money}}, {"en", "1e3", 1000, Entry{Exp: true}}, {"en", ".5", 0.5, Entry{Places: 1}}, {"en", "5.", 5, Entry{}},
		{"en", "+5", 5, Entry{}}, {"en", "- 5", -5, Entry{}}, {"en", " \t5\u00a0\u202f", 5, Entry{}}, {"en", "-0", neg0, Entry{}}, {"en", "( $ 5.25 )", -5.25, Entry{Kind: Money, Places: 2}}, {"en", "-$5", -5, Entry{Kind: Money}}, {"en", "(5\t%)", -0.05, Entry{Kind: Percent}}, {"en", "1E-2", 0.01, Entry{Exp: true}}, {"en", "1e+000000002", 100, Entry{Exp: true}}, {"en", "12.50e1 %", 1.25, Entry{Kind: Percent, Places: 2, Exp: true}}, {"en", "0e999999999", 0, Entry{Exp: true}}, {"en", "007", 7, Entry{}}, {"en", "1e-400", 0, Entry{Exp: true}}, {"en", "-\u00a01", -1, Entry{}},
		{"de", "1.234,5", 1234.5, Entry{Grouped: true, Places: 1}}, {"de", "1,5 %", 0.015, Entry{Kind: Percent, Places: 1}}, {"de", "3 €", 3, Entry{Kind: Money}}, {"de", "€3", 3, Entry{Kind: Money}},
		{"sv", "−1\u00a0234,5 kr", -1234.5, Entry{Kind: Money, Grouped: true, Places: 1}}, {"sv", "1e−2", 0.01, Entry{Exp: true}}, {"sv", "-1\u00a0kr", -1, Entry{Kind: Money}}, {"sv", "1\u00a0", 1, Entry{}}, {"fr", "12\u202f345", 12345, Entry{Grouped: true}}, {"hi", "12,34,567", 1234567, Entry{Grouped: true}}, {"hi", "₹1", 1, Entry{Kind: Money}}, {"ch", "CHF 1’000.05", 1000.05, Entry{Kind: Money, Grouped: true, Places: 2}}, {"ch", "1CHF", 1, Entry{Kind: Money}},
	} {
		c.want.Bits = bitsOf(c.x)
		if x, e := New(find(c.name)).Enter(c.s); x != c.want || e != api.OK {
			t.Errorf("%s %q: %+v %d", c.name, c.s, x, e)
		}
	}
}

func TestT1Wrong(t *testing.T) {
	for _, c := range []struct {
		name string
		l    []string
		e    api.Errno
	}{
		{"en", []string{"", " ", "-", "1 2", "--1", "(-1)", "$5%", "12,34", "1e", "()", "(1", "1)", "((1))", "+-1", ".", "-.", "1.2.3", "1,234,5", "1,2345", ",123", "1,234,", "1.234,5", "e5", "1e+", "1e5.5", "1e0000000001", "1 e5", "$", "%", "%5", "$-5", "$5$", "5%%", "5$%", "5% $", "1\n", "−5", "1\xa0", "\xff1", "1,234e", "x", "1_000", "0x10", "inf", "nan", "٣", "1.,5", "1 .5", "($5) $"}, api.ErrForm},
		{"de", []string{"1.23", "1,234.5", "1,2,3", "$3", "1.2345"}, api.ErrForm},
		{"sv", []string{"1 234", "1\u00a023", "1\u202f234", "1\u00a0\u00a0234", "kr", "1e − 2"}, api.ErrForm},
		{"hi", []string{"1,234,567"}, api.ErrForm},
		{"en", []string{"1e400", "-1e309", "(1e310)", "1e999999999", "1e-999999999", "1e100001", "1e-100001", "1e311%"}, api.ErrOver},
		{"en", []string{strings.Repeat(" ", 1000) + "1", strings.Repeat("1", 1001)}, api.ErrLong},
		{"en", []string{strings.Repeat(" ", 1000), "1" + strings.Repeat(" ", 998) + "x"}, api.ErrForm},
		{"en", []string{strings.Repeat("1", 999)}, api.ErrOver},
	} {
		r := New(find(c.name))
		for _, s := range c.l {
			if x, e := r.Enter(s); x != (Entry{}) || e != c.e {
				t.Errorf("%s %q: %+v %d", c.name, s, x, e)
			}
		}
	}
	if x, e := New(find("en")).Enter(strings.Repeat(" ", 999) + "7"); x != (Entry{Bits: bitsOf(7)}) || e != api.OK {
		t.Error("1000 bytes", x, e)
	}
}

func TestT2(t *testing.T) {
	for _, c := range []struct {
		name string
		x    float64
		want string
	}{
		{"de", 1234.5, "1234,5"}, {"de", 0.1 + 0.2, "0,3"}, {"de", 1e15, "1E+15"}, {"de", 1e14, "100000000000000"}, {"de", 123456789012345678, "1,23456789012346E+17"}, {"de", 0.00001, "0,00001"}, {"de", 0.0000012, "1,2E-06"}, {"de", math.Copysign(0, -1), "-0"}, {"de", 0, "0"},
		{"sv", -1e100, "\u22121E+100"}, {"en", -1.5, "-1.5"}, {"en", 999999999999999.4, "999999999999999"}, {"en", 999999999999999.6, "1E+15"}, {"en", 1e-5, "0.00001"}, {"en", 9.99e-6, "9.99E-06"}, {"en", 5e-324, "4.94065645841247E-324"}, {"en", math.MaxFloat64, "1.79769313486232E+308"}, {"hi", 12345678, "12345678"}, {"ch", 0.5, "0.5"}, {"en", 1e-10, "1E-10"}, {"en", 1e-9, "1E-09"}, {"en", 1e99, "1E+99"}, {"en", 123456789012345.5, "123456789012346"},
		{"en", math.Inf(1), ""}, {"en", math.Inf(-1), ""}, {"en", math.NaN(), ""},
	} {
		if s := General(bitsOf(c.x), find(c.name)); s != c.want {
			t.Error(c, s)
		}
	}
}

func TestT3(t *testing.T) {
	numbers := read.New()
	rnd := rand.New(rand.NewSource(3))
	for _, name := range locale.Names() {
		l := find(name)
		r := New(l)
		for range 2000 {
			x := []uint64{rnd.Uint64(), bitsOf(float64(rnd.Intn(1e6)) / 100), bitsOf(math.Ldexp(rnd.Float64()-0.5, rnd.Intn(80)-20)), api.Most}[rnd.Intn(4)]
			d, e := exact.Sig(x, 15, api.Away)
			if e != api.OK {
				continue
			}
			s := General(x, l)
			want, _ := numbers.Bits(d)
			got, e := r.Enter(s)
			if want&^api.NegZero == api.Inf {
				if e != api.ErrOver {
					t.Fatal(name, s, e)
				}
			} else if got.Bits != want || e != api.OK {
				t.Fatalf("%s %q: %x %d, not %x", name, s, got.Bits, e, want)
			}
			if again, e2 := r.Enter("\t\u202f " + s + "\u00a0"); again != got || e2 != e {
				t.Fatal(name, s)
			}
			d, _ = decimal.Place(d, 5, api.Away)
			want, _ = numbers.Bits(d)
			for _, grouped := range []bool{true, false} {
				if s := l.Write(d, grouped); s != "" && want&^api.NegZero != api.Inf {
					if got, e := r.Enter(s); got.Bits != want || e != api.OK {
						t.Fatalf("%s %q: %x %d", name, s, got.Bits, e)
					}
				}
			}
		}
	}
}

func TestT1Constants(t *testing.T) {
	if Plain != 0 || Percent != 1 || Money != 2 {
		t.Error("constants")
	}
}

// P3: a Reader doesn't keep the caller's Sizes; P1: other locales end, too.
func TestT1Locale(t *testing.T) {
	l := find("en")
	r := New(l)
	l.Sizes[0] = 1
	if x, e := r.Enter("1,234"); x.Bits != bitsOf(1234) || e != api.OK {
		t.Error(x, e)
	}
	for _, l := range []locale.Locale{{}, {Sizes: []int{0}}, {Group: "1", Decimal: "2", Currency: "3", Minus: "4"}, {Group: ",", Sizes: []int{-3}}} {
		for _, s := range []string{"1,234.5", "", "-(1)", "1e5", "123"} {
			_, _ = New(l).Enter(s)
			_, _ = (&Reader{}).Enter(s)
			_ = General(bitsOf(-1234.5e30), l) + General(bitsOf(12), l)
		}
	}
}
