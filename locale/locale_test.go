package locale

import (
	"math/rand"
	"reflect"
	"slices"
	"strconv"
	"strings"
	"testing"

	"tabard/api"
	"tabard/decimal"
)

func find(t *testing.T, name string) Locale {
	l, e := Find(name)
	if e != api.OK || l.Name != name {
		t.Fatal(name, l, e)
	}
	return l
}

func TestL1(t *testing.T) {
	want := []string{"ch", "de", "en", "fr", "hi", "sv"}
	names := Names()
	if !slices.Equal(names, want) {
		t.Fatal(names)
	}
	names[0] = "x"
	if !slices.Equal(Names(), want) {
		t.Error("Names shares memory")
	}
	for _, c := range []Locale{
		{"ch", ".", "\u2019", ";", "-", "%", "CHF", true, true, []int{3}},
		{"de", ",", ".", ";", "-", "%", "\u20ac", false, true, []int{3}},
		{"en", ".", ",", ",", "-", "%", "$", true, false, []int{3}},
		{"fr", ",", "\u202f", ";", "-", "%", "\u20ac", false, true, []int{3}},
		{"hi", ".", ",", ",", "-", "%", "\u20b9", true, false, []int{3, 2}},
		{"sv", ",", "\u00a0", ";", "\u2212", "%", "kr", false, true, []int{3}},
	} {
		l := find(t, c.Name)
		if !reflect.DeepEqual(l, c) {
			t.Errorf("%+v", l)
		}
		l.Sizes[0] = 7
		if again := find(t, c.Name); !reflect.DeepEqual(again, c) {
			t.Error("Find shares memory", c.Name)
		}
	}
	for _, name := range []string{"EN", "", "en ", "xx", "e"} {
		if l, e := Find(name); !reflect.DeepEqual(l, Locale{}) || e != api.ErrName {
			t.Error(name, l, e)
		}
	}
}

func TestL2(t *testing.T) {
	for _, c := range []struct{ name, digits, want string }{
		{"en", "1234567", "1,234,567"}, {"de", "1234567", "1.234.567"}, {"hi", "1234567", "12,34,567"}, {"hi", "123456", "1,23,456"}, {"hi", "12345678901", "12,34,56,78,901"}, {"en", "123", "123"}, {"en", "", ""}, {"en", "1234", "1,234"}, {"hi", "1234", "1,234"}, {"sv", "1234", "1\u00a0234"}, {"fr", "123456", "123\u202f456"}, {"ch", "000000", "000\u2019000"},
	} {
		if s := find(t, c.name).Grouped(c.digits); s != c.want {
			t.Error(c, s)
		}
	}
	for _, c := range []struct {
		name, s, want string
		ok            bool
	}{
		{"en", "1,234", "1234", true}, {"en", "1234", "1234", true}, {"en", "0", "0", true}, {"en", "12,34", "", false}, {"en", "1,2345", "", false}, {"en", ",123", "", false}, {"en", "", "", false}, {"hi", "12,34,567", "1234567", true}, {"hi", "1,234,567", "", false}, {"en", "1,234567", "", false}, {"en", "1,,234", "", false}, {"en", "1,234,", "", false}, {"en", "1.234", "", false}, {"en", "a", "", false}, {"en", ",", "", false}, {"sv", "1\u00a0234", "1234", true}, {"sv", "1 234", "", false}, {"en", "1,a34", "", false}, {"en", "٣", "", false},
	} {
		if s, ok := find(t, c.name).Plain(c.s); s != c.want || ok != c.ok {
			t.Error(c, s, ok)
		}
	}
}

func TestL3(t *testing.T) {
	for _, c := range []struct {
		name    string
		d       string
		grouped bool
		want    string
	}{
		{"sv", "-1234.5", true, "\u22121\u00a0234,5"}, {"en", "0.001", false, "0.001"}, {"en", "12e3", false, "12000"}, {"de", "1234567.25", true, "1.234.567,25"}, {"en", "0", true, "0"}, {"en", "-0", false, "-0"}, {"en", "12e3", true, "12,000"}, {"en", "0.12345", true, "0.12345"}, {"hi", "-1234567", true, "-12,34,567"}, {"en", "1.5", true, "1.5"},
		{"en", "1e399", false, "1" + strings.Repeat("0", 399)}, {"en", "1e400", false, ""}, {"en", "1e-400", false, "0." + strings.Repeat("0", 399) + "1"}, {"en", "1e-401", false, ""}, {"en", "1e100000", true, ""}, {"en", "1e-100000", true, ""},
	} {
		d, e := decimal.Parse(c.d)
		if s := find(t, c.name).Write(d, c.grouped); s != c.want || e != api.OK {
			t.Error(c, s)
		}
	}
	for _, d := range []api.Dec{{Digits: "10"}, {Exp: 1}, {Digits: "x"}, {Digits: "1", Exp: -1 << 63}} {
		if s := find(t, "en").Write(d, true); s != "" {
			t.Error(d, s)
		}
	}
}

func TestL4(t *testing.T) {
	for _, c := range []struct{ name, want string }{{"en", "$5"}, {"de", "5\u00a0\u20ac"}, {"hi", "\u20b95"}, {"ch", "CHF\u00a05"}, {"sv", "5\u00a0kr"}, {"fr", "5\u00a0\u20ac"}} {
		if s := find(t, c.name).Money("5"); s != c.want {
			t.Error(c, s)
		}
	}
}

func TestL5(t *testing.T) {
	r := rand.New(rand.NewSource(5))
	for _, name := range Names() {
		l := find(t, name)
		for range 2000 {
			digits := strconv.Itoa(r.Int() >> r.Intn(63))
			if s, ok := l.Plain(l.Grouped(digits)); s != digits || !ok {
				t.Fatal(name, digits, s, ok)
			}
			d, _ := decimal.Make(r.Intn(2) == 0, digits, r.Intn(40)-30)
			s := l.Write(d, r.Intn(2) == 0)
			if d.Neg {
				if !strings.HasPrefix(s, l.Minus) {
					t.Fatal(name, d, s)
				}
				s = s[len(l.Minus):]
			}
			s = strings.ReplaceAll(strings.ReplaceAll(s, l.Group, ""), l.Decimal, "")
			if strings.Trim(s, "0") != strings.Trim(d.Digits, "0") {
				t.Fatal(name, d, s)
			}
		}
	}
}

// P1: any locale's groups come to an end.
func TestL2Ends(t *testing.T) {
	for _, sizes := range [][]int{nil, {0}, {-1}, {3, 0}, {1 << 62}, {1}} {
		l := Locale{Sizes: sizes}
		_, _ = l.Plain(l.Grouped("1234567890"))
		_ = l.Write(api.Dec{Digits: "123456"}, true) + l.Money("1")
	}
}
