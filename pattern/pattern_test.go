package pattern

import (
	"math/rand"
	"reflect"
	"strings"
	"testing"

	"tabard/api"
)

func lit(s string) []Item {
	l := []Item{}
	for _, r := range s {
		l = append(l, Item{Literal, string(r)})
	}
	return l
}

func dig(s string) []Item {
	l := []Item{}
	for _, r := range s {
		l = append(l, Item{Digit, string(r)})
	}
	return l
}

func join(l ...[]Item) []Item {
	all := []Item{}
	for _, x := range l {
		all = append(all, x...)
	}
	return all
}

func one(kind int) []Item { return []Item{{Kind: kind}} }

func exp(s string) []Item { return []Item{{Exp, s}} }

func only(items []Item) Pattern { return Pattern{[]Section{{Items: items}}} }

func TestG1(t *testing.T) {
	for i, c := range []struct {
		s    Section
		want int
	}{
		{Section{}, Plain}, {Section{Items: join(lit("a "), one(Money))}, Plain}, {Section{Items: join(one(General), lit("x"), one(Money))}, Common}, {Section{Items: join(one(General), one(General))}, None}, {Section{Items: join(one(General), dig("0"))}, None},
		{Section{Items: join(one(Whole), lit("!"), one(Whole))}, Words}, {Section{Items: join(one(Whole), one(Money))}, None}, {Section{Items: join(one(Whole), one(General))}, None},
		{Section{Items: dig("0")}, Number}, {Section{Items: join(dig("#?0"), one(Point), dig("00"), one(Percent), one(Money))}, Number}, {Section{Items: join(one(Point), dig("0"))}, Number}, {Section{Items: one(Point)}, None}, {Section{Items: one(Percent)}, None}, {Section{Items: join(dig("0"), one(Point), one(Point))}, None}, {Section{Items: join(dig("0"), one(Percent), one(Percent))}, None},
		{Section{Items: dig(strings.Repeat("0", 30))}, Number}, {Section{Items: dig(strings.Repeat("0", 31))}, None}, {Section{Items: join(one(Point), dig(strings.Repeat("#", 30)))}, Number}, {Section{Items: join(one(Point), dig(strings.Repeat("#", 31)))}, None},
		{Section{Items: join(dig("0"), one(Point), dig("0"), one(Percent), exp("+"), dig("0"))}, Power}, {Section{Items: join(dig("0"), exp("-"), dig("0000"))}, Power}, {Section{Items: join(dig("0"), exp("-"), dig("00000"))}, None}, {Section{Items: join(dig("0"), exp("-"))}, None}, {Section{Items: join(exp("-"), dig("0"))}, None}, {Section{Items: join(one(Point), dig("0"), exp("-"), dig("0"))}, Power}, {Section{Items: join(dig("0"), exp("-"), dig("0"), one(Point))}, None}, {Section{Items: join(dig("0"), exp("-"), dig("0"), exp("-"), dig("0"))}, None}, {Section{Items: join(dig("0"), exp("-"), dig("0"), one(Percent))}, Power},
		{Section{Items: join(dig("0"), one(Slash), dig("0"))}, Fraction}, {Section{Items: join(dig("0"), lit(" "), dig("?"), one(Slash), dig("????"), lit("x"), one(Money))}, Fraction}, {Section{Items: join(dig("0"), lit(" "), one(Slash), dig("0"))}, None}, {Section{Items: join(one(Slash), dig("0"))}, None}, {Section{Items: join(dig("0"), one(Slash))}, None}, {Section{Items: join(dig("0"), one(Slash), dig("00000"))}, None}, {Section{Items: join(dig("0"), one(Slash), dig("0"), one(Slash), dig("0"))}, None}, {Section{Items: join(dig("0"), one(Slash), dig("0"), one(Percent))}, None}, {Section{Items: join(dig("0"), one(Slash), dig("0"), one(Point))}, None}, {Section{Items: join(dig("0"), one(Slash), dig("0"), exp("+"))}, None}, {Section{Items: join(dig(strings.Repeat("0", 31)), one(Slash), dig("0"))}, None}, {Section{Items: join(dig(strings.Repeat("0", 30)), one(Slash), dig("0-0"))}, None}, {Section{Items: join(dig("0"), one(Slash), dig("0"), lit("-"), dig("0"))}, Fraction},
		{Section{Items: dig("00"), Grouped: true}, Number}, {Section{Items: dig("0"), Grouped: true}, None}, {Section{Items: join(dig("0"), lit("-"), dig("0")), Grouped: true}, None}, {Section{Items: join(dig("0"), one(Point), dig("00")), Grouped: true}, None}, {Section{Items: dig("0"), Scale: 9}, Number}, {Section{Items: dig("0"), Scale: 10}, None}, {Section{Items: dig("0"), Scale: -1}, None}, {Section{Items: join(one(Point), dig("0")), Scale: 1}, None}, {Section{Items: one(General), Grouped: true}, None}, {Section{Scale: 1}, None}, {Section{Items: join(dig("00"), exp("+"), dig("0")), Grouped: true}, None},
		{Section{Items: []Item{{Kind: 0}}}, None}, {Section{Items: []Item{{Kind: 10}}}, None}, {Section{Items: []Item{{Kind: -1}}}, None}, {Section{Items: []Item{{Literal, ""}}}, None}, {Section{Items: []Item{{Literal, "ab"}}}, None}, {Section{Items: []Item{{Literal, "\xff"}}}, None}, {Section{Items: []Item{{Literal, "\ufffd"}}}, Plain}, {Section{Items: []Item{{Digit, "1"}}}, None}, {Section{Items: []Item{{Money, "$"}}}, None}, {Section{Items: join(dig("0"), []Item{{Exp, ""}}, dig("0"))}, None},
		{Section{Items: join(one(General), one(Whole), dig("0"))}, None}, {Section{Items: join(one(Whole), dig("0"))}, None}, {Section{Items: join(dig("0"), one(Point), one(Percent), dig("0"), one(Slash), dig("0"))}, None}, {Section{Items: join(one(Percent), dig("0"), one(Slash), dig("0"), exp("+"))}, None},
	} {
		if x := Shape(c.s); x != c.want {
			t.Error(i, c.s, x)
		}
	}
	zero, words, plain := Section{Items: dig("0")}, Section{Items: one(Whole)}, Section{}
	long := Section{Items: lit(strings.Repeat("a", 50))}
	for i, c := range []struct {
		l    []Section
		want bool
	}{
		{nil, false}, {[]Section{zero}, true}, {[]Section{words}, true}, {[]Section{words, zero}, false}, {[]Section{zero, words}, false}, {[]Section{zero, zero, zero, words}, true}, {[]Section{zero, zero, zero, plain}, true}, {[]Section{zero, zero, zero, zero}, false}, {[]Section{zero, zero, words, words}, false}, {[]Section{plain, plain, plain, plain, plain}, false}, {[]Section{long, long}, true}, {[]Section{long, long, zero}, false}, {[]Section{zero, {Items: one(Point)}}, false},
	} {
		if x := Right(Pattern{c.l}); x != c.want {
			t.Error(i, x)
		}
		if s := Print(Pattern{c.l}); !c.want && s != "" {
			t.Error(i, s)
		}
	}
}

func TestG1Constants(t *testing.T) {
	for i, kind := range []int{Literal, Digit, Point, Percent, Exp, Slash, General, Whole, Money} {
		if kind != i+1 {
			t.Error(i)
		}
	}
	for i, shape := range []int{None, Plain, Number, Power, Fraction, Common, Words} {
		if shape != i {
			t.Error(i)
		}
	}
}

func TestG2(t *testing.T) {
	for _, c := range []struct {
		s    string
		want []Section
	}{
		{"", []Section{{}}}, {"0.00", []Section{{Items: join(dig("0"), one(Point), dig("00"))}}}, {"#,##0;(#,##0)", []Section{{Items: dig("###0"), Grouped: true}, {Items: join(lit("("), dig("###0"), lit(")")), Grouped: true}}},
		{"0.00E+00", []Section{{Items: join(dig("0"), one(Point), dig("00"), exp("+"), dig("00"))}}}, {"0e-0", []Section{{Items: join(dig("0"), exp("-"), dig("0"))}}}, {"# ?/??", []Section{{Items: join(dig("#"), lit(" "), dig("?"), one(Slash), dig("??"))}}}, {"General", []Section{{Items: one(General)}}}, {`"a"@`, []Section{{Items: join(lit("a"), one(Whole))}}}, {";;;", []Section{{}, {}, {}, {}}},
		{"0,,", []Section{{Items: dig("0"), Scale: 2}}}, {"0,0", []Section{{Items: dig("00"), Grouped: true}}}, {"0,0,", []Section{{Items: dig("00"), Grouped: true, Scale: 1}}}, {"0,-0", []Section{{Items: join(dig("0"), lit("-"), dig("0")), Scale: 1}}}, {"0,.0", []Section{{Items: join(dig("0"), one(Point), dig("0")), Scale: 1}}}, {"0,0,0", []Section{{Items: dig("000"), Grouped: true}}},
		{`\é_€`, []Section{{Items: lit("é ")}}}, {`""`, []Section{{}}}, {`"é€\"`, []Section{{Items: lit(`é€\`)}}}, {`\"\;\\`, []Section{{Items: lit(`";\`)}}}, {"0%$", []Section{{Items: join(dig("0"), one(Percent), one(Money))}}}, {" -+():", []Section{{Items: lit(" -+():")}}},
	} {
		p, e, at := Parse(c.s)
		for i := range p.Sections {
			p.Sections[i].Items = append([]Item{}, p.Sections[i].Items...)
			c.want[i].Items = append([]Item{}, c.want[i].Items...)
		}
		if !reflect.DeepEqual(p, Pattern{c.want}) || e != api.OK || at != 0 {
			t.Errorf("%q: %+v %d %d", c.s, p, e, at)
		}
	}
	hundred := strings.Repeat("-", 100)
	for _, c := range []struct {
		s  string
		e  api.Errno
		at int
	}{
		{"0.0,,", api.ErrPattern, 3}, {",0", api.ErrPattern, 0}, {"0.0,0", api.ErrPattern, 3}, {`"a`, api.ErrPattern, 0}, {"a", api.ErrPattern, 0}, {"0;0;0;0", api.ErrPattern, 6}, {"0..0", api.ErrPattern, 0}, {"@;0", api.ErrPattern, 0}, {"0;1", api.ErrPattern, 2}, {"0;0;@", api.ErrPattern, 4},
		{"0,,0", api.ErrPattern, 2}, {`\0,0`, api.ErrPattern, 2}, {`"0",0`, api.ErrPattern, 3}, {"0-,", api.ErrPattern, 2}, {"0/0,", api.ErrPattern, 3}, {"0E+0,", api.ErrPattern, 4}, {"0%,", api.ErrPattern, 2}, {"E", api.ErrPattern, 0}, {"0e", api.ErrPattern, 1}, {"general", api.ErrPattern, 0}, {"Genera", api.ErrPattern, 0},
		{`0\`, api.ErrPattern, 1}, {"0_\xff", api.ErrPattern, 1}, {"0\\\xc3", api.ErrPattern, 1}, {"0\"\xff\"", api.ErrPattern, 1}, {";;;;", api.ErrMany, 3}, {"0;0;0;;", api.ErrMany, 6}, {"x;;;;", api.ErrPattern, 0}, {"#,##0/0", api.ErrPattern, 0}, {"0;#,##0E+0", api.ErrPattern, 2}, {"0,,,,,,,,,,", api.ErrPattern, 0}, {"0;.", api.ErrPattern, 2}, {"é", api.ErrPattern, 0},
		{hundred + "-", api.ErrMany, 100}, {hundred + `""-`, api.ErrMany, 102}, {hundred + `"-"`, api.ErrMany, 101}, {hundred[1:] + `"é€"`, api.ErrMany, 102}, {hundred + `"x`, api.ErrPattern, 100}, {hundred + `\`, api.ErrPattern, 100}, {hundred + `\x`, api.ErrMany, 100}, {hundred + "General", api.ErrMany, 100}, {hundred + ";0", api.ErrMany, 101}, {hundred + "1", api.ErrPattern, 100}, {"..;" + hundred, api.ErrMany, 101},
		{strings.Repeat(" ", 1001), api.ErrLong, 0}, {`"` + strings.Repeat(" ", 999), api.ErrPattern, 0}, {`"` + strings.Repeat("x", 1000) + `"`, api.ErrLong, 0},
	} {
		if p, e, at := Parse(c.s); len(p.Sections) > 0 || e != c.e || at != c.at {
			t.Errorf("%q: %+v %d %d", c.s, p, e, at)
		}
	}
	if _, e, at := Parse(hundred + ";;"); e != api.OK || at != 0 {
		t.Error(e, at)
	}
}

func TestG3(t *testing.T) {
	for _, c := range []struct{ s, want string }{
		{`"kg" 0`, `\k\g 0`}, {`_)0`, " 0"}, {"#,##0.0#;(0);-", "#,##0.0#;(0);-"}, {"0,0,,", "0,0,,"}, {"0,-00", "0-00,"}, {"0,-0", "0-0,"}, {"##0,0", "#,#00"}, {"0e+00", "0E+00"}, {`""`, ""}, {";", ";"}, {`"` + `-\"`, `-\\`}, {"0,.00%", "0,.00%"}, {"General$@", ""}, {"# ?/??", "# ?/??"}, {`;;;"<"@`, `;;;\<@`}, {`\"é`, ""}, {`"é"`, `\é`},
	} {
		p, e, _ := Parse(c.s)
		if s := Print(p); s != c.want {
			t.Errorf("%q %d: %q", c.s, e, s)
		}
	}
	if s := Print(only([]Item{{Literal, "ab"}})); s != "" {
		t.Error(s)
	}
}

func TestG4(t *testing.T) {
	r := rand.New(rand.NewSource(4))
	parts := []string{"0", "#", "?", "0", "#", ",", ",", ".", "%", "E+", "e-", "/", "General", "@", "$", ";", `"ab"`, `"`, `\x`, `\,`, "_)", " ", "-", "(", "é", `\é`, "\xff", "x"}
	good := 0
	for range 200000 {
		var b strings.Builder
		for range r.Intn(9) {
			b.WriteString(parts[r.Intn(len(parts))])
		}
		s := b.String()
		p, e, at := Parse(s)
		if e != api.OK {
			if len(p.Sections) > 0 || at < 0 || at > len(s) {
				t.Fatalf("%q: %v %d %d", s, p, e, at)
			}
			continue
		}
		good++
		text := Print(p)
		again, e, at := Parse(text)
		if !Right(p) || e != api.OK || at != 0 || !reflect.DeepEqual(p, again) || Print(again) != text {
			t.Fatalf("%q: %q %+v %+v", s, text, p, again)
		}
	}
	if good < 1000 {
		t.Error(good)
	}
}
