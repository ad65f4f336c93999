package engine

import (
	"math"
	"math/rand"
	"reflect"
	"slices"
	"strconv"
	"strings"
	"testing"

	"tabard/api"
	"tabard/cell"
	"tabard/eval"
	"tabard/formula"
	"tabard/locale"
	"tabard/value"
)

func at(s string) api.Ref {
	r, e := cell.Parse(s)
	if e != api.OK {
		panic(s)
	}
	return r
}

func find(name string) locale.Locale {
	l, e := locale.Find(name)
	if e != api.OK {
		panic(name)
	}
	return l
}

func num(x float64) api.Value {
	return api.Value{Kind: api.Number, Bits: math.Float64bits(x)}
}

func txt(s string) api.Value { return api.Value{Kind: api.Text, Text: s} }

func fail(n int) api.Value { return api.Value{Kind: api.Fail, Fail: n} }

func is(b bool) api.Value { return api.Value{Kind: api.Bool, Is: b} }

func con(v api.Value) Content { return Content{Kind: Constant, Value: v} }

func form(s string) Content {
	e, err, _ := formula.New(find("en")).Parse(s)
	if err != api.OK {
		panic(s)
	}
	return Content{Kind: Formula, Expr: e}
}

func sheet(t *testing.T, name string) *Sheet {
	t.Helper()
	s, e := New(name)
	if e != api.OK || s == nil {
		t.Fatal(name, e)
	}
	return s
}

// fill sets cells: A1 2; A2 =A1*3.
func fill(t *testing.T, s *Sheet, text string) {
	t.Helper()
	for _, part := range strings.Split(text, "; ") {
		name, what, _ := strings.Cut(part, " ")
		if e := s.Set(at(name), what); e != api.OK {
			t.Fatal(part, e)
		}
	}
}

func shown(s *Sheet, names string) string {
	l := []string{}
	for _, n := range strings.Fields(names) {
		l = append(l, s.Show(at(n)))
	}
	return strings.Join(l, "|")
}

func TestP1(t *testing.T) {
	rep := strings.Repeat
	for _, c := range []struct {
		name, text string
		want       Content
		e          api.Errno
	}{
		{"en", "", Content{}, 0}, {"en", "'5", con(txt("5")), 0}, {"en", "5%", con(num(0.05)), 0}, {"en", "true", con(is(true)), 0}, {"en", "FaLSE", con(is(false)), 0}, {"en", "#N/A", con(fail(7)), 0}, {"en", "#CYCLE!", con(fail(8)), 0}, {"en", "abc", con(txt("abc")), 0}, {"en", "#n/a", con(txt("#n/a")), 0}, {"en", "=1+", Content{}, api.ErrSyntax}, {"en", "1e400", Content{}, api.ErrOver}, {"en", "=1+2", form("1+2"), 0}, {"en", "'", con(txt("")), 0}, {"en", "''a", con(txt("'a")), 0}, {"en", "'=1", con(txt("=1")), 0}, {"en", "=", Content{}, api.ErrSyntax}, {"en", "=foo", Content{}, api.ErrName}, {"en", "=ZZ1", Content{}, api.ErrCell}, {"en", "=1e999", Content{}, api.ErrOver}, {"en", "= 1", form("1"), 0}, {"en", " =1", con(txt(" =1")), 0}, {"en", " 5 ", con(num(5)), 0}, {"en", " ", con(txt(" ")), 0}, {"en", "1.234,5", con(txt("1.234,5")), 0}, {"de", "1.234,5", con(num(1234.5)), 0}, {"de", "=SUM(1,5;2)", form("SUM(1.5,2)"), 0}, {"en", "FALſE", con(txt("FALſE")), 0}, {"en", "-0", con(num(math.Copysign(0, -1))), 0}, {"en", "($5)", con(num(-5)), 0}, {"en", "TRUE ", con(txt("TRUE ")), 0}, {"en", "\xff", con(txt("\xff")), 0},
		{"en", rep("a", 1001), Content{}, api.ErrLong}, {"en", rep("a", 1000), Content{}, api.ErrLong}, {"en", rep("a", 999), con(txt(rep("a", 999))), 0}, {"en", "'" + rep("a", 999), con(txt(rep("a", 999))), 0}, {"en", "'" + rep("a", 1000), Content{}, api.ErrLong}, {"en", rep(" ", 999) + "1", con(num(1)), 0}, {"en", "=" + rep(" ", 998) + "1", form("1"), 0}, {"en", "=" + rep(" ", 1000), Content{}, api.ErrLong}, {"en", "=\"" + rep("a", 997) + `"`, form(`"` + rep("a", 997) + `"`), 0},
		{"en", "=" + rep("1e21+", 99) + "1", form(rep("1e21+", 99) + "1"), 0}, {"en", "=\"" + rep("a", 900) + "\"&" + rep("1e9+", 20) + "1", Content{}, api.ErrLong}, {"en", "=" + rep("(1)+", 249) + "1", Content{}, api.ErrDeep},
	} {
		got, e := Read(c.text, find(c.name))
		if !reflect.DeepEqual(got, c.want) || e != c.e {
			t.Errorf("%s %.40q: %v %d", c.name, c.text, got, e)
		}
		if e == api.OK && !Right(got) {
			t.Errorf("%.40q isn't right", c.text)
		}
	}
	long := Content{Kind: Formula, Expr: api.Expr{Kind: api.XText, Text: rep("a", 998)}}
	for i, c := range []struct {
		c  Content
		ok bool
	}{
		{Content{}, true}, {con(num(1)), true}, {con(is(false)), true}, {con(fail(8)), true}, {con(txt(rep("a", 999))), true}, {con(txt(rep("a", 1000))), false}, {con(api.Value{}), false}, {con(num(math.Inf(1))), false}, {con(fail(9)), false}, {Content{Value: num(1)}, false}, {Content{Expr: form("1").Expr}, false}, {Content{Expr: api.Expr{B: api.Ref{AbsRow: true}}}, false}, {Content{Expr: api.Expr{A: api.Ref{Col: 1}}}, false}, {Content{Expr: api.Expr{Kind: 1}}, false}, {Content{Expr: api.Expr{Bits: 1}}, false}, {Content{Expr: api.Expr{Text: "a"}}, false}, {Content{Expr: api.Expr{Is: true}}, false}, {Content{Expr: api.Expr{Fail: 1}}, false}, {Content{Expr: api.Expr{Kids: make([]api.Expr, 1)}}, false}, {Content{Kind: Constant, Value: num(1), Expr: form("1").Expr}, false}, {Content{Kind: Formula, Value: num(1), Expr: form("1").Expr}, false}, {form("A1:B2"), true}, {Content{Kind: Formula}, false}, {Content{Kind: 3}, false}, {Content{Kind: -1}, false}, {long, false}, {Content{Kind: Formula, Expr: api.Expr{Kind: api.XText, Text: rep("a", 997)}}, true}, {Content{Kind: Constant, Value: num(1), Expr: api.Expr{Kids: []api.Expr{}}}, true}, {Content{Kind: Constant, Value: num(1), Expr: api.Expr{Kids: make([]api.Expr, 1)}}, false},
	} {
		if Right(c.c) != c.ok {
			t.Error(i)
		}
	}
}

func TestP1Constants(t *testing.T) {
	if Nothing != 0 || Constant != 1 || Formula != 2 {
		t.Error("constants")
	}
}

func TestP2(t *testing.T) {
	for _, name := range []string{"xx", "", "EN"} {
		if s, e := New(name); s != nil || e != api.ErrName {
			t.Error(name, e)
		}
	}
	s := sheet(t, "en")
	bad := api.Ref{Col: 64}
	for i, e := range []api.Errno{s.Put(bad, Content{Kind: 9}), s.Set(bad, "=1+"), s.Format(bad, "x")} {
		if e != api.ErrCell {
			t.Error(i, e)
		}
	}
	fill(t, s, "A1 1; B1 =A1+1")
	if s.Evals() != 1 {
		t.Error(s.Evals())
	}
	for i, c := range []struct{ got, want api.Errno }{
		{s.Put(at("A1"), con(txt(strings.Repeat("a", 1000)))), api.ErrArg}, {s.Set(at("A1"), "=1+"), api.ErrSyntax}, {s.Set(at("A1"), "1e400"), api.ErrOver}, {s.Set(at("A1"), strings.Repeat("a", 1000)), api.ErrLong}, {s.Format(at("C3"), "@!"), api.ErrPattern}, {s.Format(at("C3"), ";;;;"), api.ErrMany}, {s.Format(at("C3"), strings.Repeat(" ", 1001)), api.ErrLong}, {s.Move("EN"), api.ErrName}, {s.Move(""), api.ErrName},
	} {
		if c.got != c.want || s.Name() != "en" || len(s.Cells()) != 2 || shown(s, "A1 B1") != "1|2" || s.Evals() != 1 {
			t.Error(i, c)
		}
	}
	if s.Put(at("$A$1"), con(num(5))) != api.OK || shown(s, "A1 $B1") != "5|6" || s.Put(at("A1"), Content{}) != api.OK || shown(s, "A1 B1") != "|1" || !slices.Equal(s.Cells(), []int{1}) {
		t.Error(shown(s, "A1 B1"))
	}
	if s.Format(at("B1"), "0.0") != api.OK || shown(s, "B1") != "1.0" || s.Format(at("B1"), `""`) != api.OK || shown(s, "B1") != "1" || s.Pattern(at("B1")) != "" || s.Format(at("D1"), `""`) != api.OK || len(s.Cells()) != 1 {
		t.Error(s.Cells())
	}
	if s.Format(at("D1"), "0") != api.OK || len(s.Cells()) != 2 || s.Set(at("D1"), "3") != api.OK || s.Format(at("D1"), "") != api.OK || len(s.Cells()) != 2 || s.Set(at("D1"), "") != api.OK || len(s.Cells()) != 1 {
		t.Error(s.Cells())
	}
}

func TestP2Many(t *testing.T) {
	s := sheet(t, "en")
	for i := range 2000 {
		if i%2 == 0 {
			s.Put(cell.At(i), con(num(1)))
		} else {
			s.Format(cell.At(i), "0")
		}
	}
	r := cell.At(2000)
	if len(s.Cells()) != 2000 || s.Put(r, con(num(1))) != api.ErrMany || s.Set(r, "=1") != api.ErrMany || s.Set(r, "=1+") != api.ErrSyntax || s.Format(r, "0") != api.ErrMany || s.Put(r, Content{Kind: 5}) != api.ErrArg || s.Format(r, "x") != api.ErrPattern || s.Put(r, Content{}) != api.OK || s.Format(r, "") != api.OK || s.Put(cell.At(1), con(num(2))) != api.OK || s.Format(cell.At(0), "0.0") != api.OK || len(s.Cells()) != 2000 {
		t.Error(len(s.Cells()))
	}
	if s.Format(cell.At(3), "") != api.OK || s.Set(r, "=1") != api.OK || s.Set(cell.At(2001), "1") != api.ErrMany {
		t.Error(len(s.Cells()))
	}
}

func TestP3(t *testing.T) {
	s := sheet(t, "en")
	fill(t, s, "C3 =SUM(A1,2)+A1; A2 'x; BL1000 5")
	s.Format(at("B1"), "0e+0")
	if !slices.Equal(s.Cells(), []int{1, 64, 130, 63999}) || s.Move("de") != api.OK || s.Name() != "de" {
		t.Error(s.Cells(), s.Name())
	}
	bad := api.Ref{Col: 64}
	if s.Content(bad).Kind != Nothing || s.Pattern(bad)+s.Entry(bad)+s.Show(bad) != "" || s.Pattern(at("$B$1")) != "0E+0" || s.Pattern(at("C3")) != "" {
		t.Error("patterns", s.Pattern(at("B1")))
	}
	for i, want := range map[int]api.Value{-1: {}, 64000: {}, math.MinInt: {}, 1: {}, 64: txt("x"), 130: num(2), 63999: num(5)} {
		if v := s.Value(i); v != want {
			t.Error(i, v)
		}
	}
	if !reflect.DeepEqual(s.Content(at("C3")), form("SUM(A1,2)+A1")) || s.Content(at("A2")).Value != txt("x") || s.Content(at("B1")).Kind != Nothing {
		t.Error(s.Content(at("C3")))
	}
	// P3: the tree that is handed out is no part of the sheet.
	c := s.Content(at("C3"))
	c.Expr.Kids[0].Kids[1].Bits = 0
	c.Expr.Text = "*"
	if s.Entry(at("C3")) != "=SUM(A1;2)+A1" {
		t.Error(s.Entry(at("C3")))
	}
	s.Cells()[0] = 77
	if s.Cells()[0] != 1 {
		t.Error(s.Cells())
	}
}

func TestP4(t *testing.T) {
	for _, c := range []struct {
		name string
		c    Content
		want string
	}{
		{"en", Content{}, ""}, {"de", form("SUM(1.5,A1)"), "=SUM(1,5;A1)"}, {"en", con(num(-1.5)), "-1.5"}, {"sv", con(num(-1.5)), "-1,5"}, {"en", con(num(1e23)), "1e+23"}, {"fr", con(num(0.1)), "0,1"}, {"en", con(num(math.Copysign(0, -1))), "-0"}, {"en", con(is(true)), "TRUE"}, {"en", con(fail(8)), "#CYCLE!"},
		{"en", con(txt("1,5")), "1,5"}, {"de", con(txt("1,5")), "'1,5"}, {"en", con(txt("")), "'"}, {"en", con(txt("'a")), "''a"}, {"en", con(txt("=1")), "'=1"}, {"en", con(txt("=x")), "'=x"}, {"en", con(txt("true")), "'true"}, {"en", con(txt("#N/A")), "'#N/A"}, {"en", con(txt("abc")), "abc"}, {"en", con(txt("1e400")), "'1e400"}, {"en", con(txt(strings.Repeat("a", 999))), strings.Repeat("a", 999)}, {"en", con(txt(" ")), " "},
	} {
		s := sheet(t, c.name)
		if e := s.Put(at("B2"), c.c); e != api.OK || s.Entry(at("B2")) != c.want {
			t.Errorf("%s %v: %q %d", c.name, c.c, s.Entry(at("B2")), e)
		}
		if e := s.Set(at("B3"), c.want); e != api.OK || !reflect.DeepEqual(s.Content(at("B3")), c.c) {
			t.Error(c.want, e)
		}
	}
}

func TestP5(t *testing.T) {
	for _, c := range []struct{ name, text, format, want string }{
		{"en", "1234.5", "#,##0.00", "1,234.50"}, {"en", "1234.5", "", "1234.5"}, {"de", "1234,5", "#,##0.00", "1.234,50"}, {"en", "abc", "", "abc"}, {"en", "abc", `@"!"`, "abc!"}, {"en", "abc", "0", "abc"}, {"en", "TRUE", "0", "TRUE"}, {"en", "#N/A", "0", "#N/A"}, {"en", "", "0", ""}, {"en", "=1/0", "", "#DIV/0!"}, {"en", "=0.1+0.2", "", "0.3"}, {"en", `="a"&1`, "@@", "a1a1"}, {"sv", "-5", "", "\u22125"}, {"en", "5", ";;;", ""},
	} {
		s := sheet(t, c.name)
		if s.Set(at("A1"), c.text) != api.OK || s.Format(at("A1"), c.format) != api.OK || s.Show(at("$A$1")) != c.want {
			t.Errorf("%v: %q", c, s.Show(at("A1")))
		}
	}
	s := sheet(t, "en")
	fill(t, s, "A1 1234.5")
	s.Format(at("A1"), "#,##0.00")
	if a := shown(s, "A1"); a != "1,234.50" || s.Move("de") != api.OK || shown(s, "A1") != "1.234,50" || s.Entry(at("A1")) != "1234,5" {
		t.Error(a, shown(s, "A1"), s.Entry(at("A1")))
	}
}

func TestP6(t *testing.T) {
	s := sheet(t, "en")
	for _, c := range []struct {
		cell, text string
		evals      int
		want       string
	}{
		{"A1", "2", 0, "2||"}, {"A2", "=A1*3", 1, "2|6|"}, {"A3", "=SUM(A1:A2)", 1, "2|6|8"}, {"A1", "5", 2, "5|15|20"}, {"A3", "=1", 1, "5|15|1"}, {"A1", "=A1", 0, "#CYCLE!|#CYCLE!|1"}, {"A3", "=A2", 0, "#CYCLE!|#CYCLE!|#CYCLE!"}, {"B1", "=1", 1, "#CYCLE!|#CYCLE!|#CYCLE!"}, {"A2", "=B1", 2, "#CYCLE!|1|1"}, {"A1", "", 0, "|1|1"}, {"B1", "7", 2, "|7|7"},
	} {
		if e := s.Set(at(c.cell), c.text); e != api.OK || s.Evals() != c.evals || shown(s, "A1 A2 A3") != c.want {
			t.Error(c, e, s.Evals(), shown(s, "A1 A2 A3"))
		}
	}
	if s.Format(at("A1"), "0") != api.OK || s.Evals() != 0 || s.Move("de") != api.OK || s.Evals() != 2 || s.Move("xx") == api.OK || s.Evals() != 2 {
		t.Error(s.Evals())
	}
	s = sheet(t, "en")
	if s.Evals() != 0 {
		t.Error(s.Evals())
	}
	fill(t, s, "A1 =B1; B1 =A1; C1 =IFERROR(A1,5); D1 1; E1 =D1+C1")
	if x := shown(s, "A1 B1 C1 D1 E1"); x != "#CYCLE!|#CYCLE!|#CYCLE!|1|#CYCLE!" {
		t.Error(x)
	}
	if s.Set(at("D1"), "2") != api.OK || s.Evals() != 0 || s.Set(at("A1"), "7") != api.OK || s.Evals() != 3 || shown(s, "A1 B1 C1 E1") != "7|7|7|9" {
		t.Error(s.Evals(), shown(s, "A1 B1 C1 E1"))
	}
	fill(t, s, "A1 #CYCLE!")
	if x := shown(s, "A1 B1 C1"); x != "#CYCLE!|#CYCLE!|5" || s.Evals() != 3 {
		t.Error(x, s.Evals())
	}
}

// model works the whole sheet out by the words of the document.
type model struct {
	l        locale.Locale
	contents map[int]Content
	values   map[int]api.Value
}

func (m *model) needs(i, k int) bool {
	return slices.ContainsFunc(eval.Needs(m.contents[i].Expr), func(a eval.Area) bool { return cell.Inside(cell.At(k), a.A, a.B) })
}

// cyclic: some formula that is needed, directly or not, needs itself.
func (m *model) cyclic(i int) bool {
	reach := func(from int) map[int]int {
		seen, work := map[int]int{}, []int{from}
		for len(work) > 0 {
			c := work[0]
			work = work[1:]
			for k := range m.contents {
				if seen[k] == 0 && m.contents[k].Kind == Formula && m.needs(c, k) {
					seen[k] = 1
					work = append(work, k)
				}
			}
		}
		return seen
	}
	all := reach(i)
	for k := range all {
		if reach(k)[k] == 1 {
			return true
		}
	}
	return false
}

func (m *model) Value(i int) api.Value {
	c := m.contents[i]
	if c.Kind != Formula {
		return c.Value
	}
	if v, ok := m.values[i]; ok {
		return v
	}
	v := fail(api.FailCycle)
	if !m.cyclic(i) {
		v = eval.New(m.l).Eval(c.Expr, m)
	}
	m.values[i] = v
	return v
}

func TestP7(t *testing.T) {
	r := rand.New(rand.NewSource(7))
	names := strings.Fields("A1 B1 C1 A2 B2 C2 A3 B3")
	name := func() string { return names[r.Intn(len(names))] }
	texts := []func() string{
		func() string { return strconv.Itoa(r.Intn(20)) }, func() string { return "" }, func() string { return "abc" }, func() string { return "#CYCLE!" }, func() string { return "=" + name() + "+1" }, func() string { return "=" + name() + "*" + name() }, func() string { return "=SUM(" + name() + ":" + name() + ")" }, func() string { return "=IF(" + name() + ">3," + name() + "," + name() + ")" }, func() string { return "=IFERROR(" + name() + ",5)" }, func() string { return "=1/" + name() },
	}
	for range 60 {
		s := sheet(t, "en")
		m := &model{contents: map[int]Content{}}
		for range 25 {
			c, text := name(), texts[r.Intn(len(texts))]()
			if r.Intn(8) == 0 {
				s.Move(locale.Names()[r.Intn(6)])
			}
			before := map[int]api.Value{}
			for i := range 200 {
				before[i] = s.Value(i)
			}
			got, e := Read(text, find("en"))
			if e != api.OK || s.Put(at(c), got) != api.OK {
				t.Fatal(text, e)
			}
			m.l = find(s.Name())
			m.contents[cell.Index(at(c))] = got
			m.values = map[int]api.Value{}
			work := 0
			for i := range 200 {
				if v := s.Value(i); v != m.Value(i) {
					t.Fatal(c, text, i, v, m.Value(i))
				}
				after := i == cell.Index(at(c)) || reached(m, i, cell.Index(at(c)))
				if m.contents[i].Kind == Formula && after && !m.cyclic(i) {
					work++
				}
				if !after && s.Value(i) != before[i] {
					t.Fatal("changed", i)
				}
			}
			if s.Evals() != work {
				t.Fatal(c, text, s.Evals(), work)
			}
			again := snapshot(s)
			s.Put(at(c), s.Content(at(c)))
			for _, n := range names {
				if e := s.Set(at(n), s.Entry(at(n))); e != api.OK {
					t.Fatal(n, e)
				}
			}
			if !reflect.DeepEqual(again, snapshot(s)) {
				t.Fatal("Set of Entry changes something")
			}
		}
	}
}

// reached tells whether cell i needs a cell, directly or through others.
func reached(m *model, i, target int) bool {
	seen, work := map[int]int{}, []int{i}
	for len(work) > 0 {
		c := work[0]
		work = work[1:]
		if m.needs(c, target) {
			return true
		}
		for k := range m.contents {
			if seen[k] == 0 && m.needs(c, k) {
				seen[k] = 1
				work = append(work, k)
			}
		}
	}
	return false
}

type kept struct {
	c Content
	v api.Value
	p string
}

func snapshot(s *Sheet) map[int]kept {
	all := map[int]kept{}
	for _, i := range s.Cells() {
		all[i] = kept{s.Content(cell.At(i)), s.Value(i), s.Pattern(cell.At(i))}
	}
	return all
}

// P1: a sheet that New didn't make does no harm.
func TestP2Zero(t *testing.T) {
	s := &Sheet{}
	_ = s.Set(at("A1"), "=B1+1")
	_ = s.Put(at("B1"), con(num(1)))
	_ = s.Format(at("A1"), "#,##0.0")
	_ = s.Show(at("A1")) + s.Entry(at("A1")) + s.Name() + s.Pattern(at("A1"))
	_ = s.Content(at("A1"))
	if len(s.Cells()) != 2 || s.Evals() != 0 || !value.Right(s.Value(0)) {
		t.Error(s.Cells(), s.Evals())
	}
	// A long chain, entered from its end and from its beginning.
	s = sheet(t, "en")
	for i := range 1999 {
		s.Set(cell.At(i), "="+cell.Print(cell.At(i+1))+"+1")
	}
	s.Set(cell.At(1999), "1")
	if s.Evals() != 1999 || s.Show(at("A1")) != "2000" {
		t.Error(s.Evals(), s.Show(at("A1")))
	}
}
