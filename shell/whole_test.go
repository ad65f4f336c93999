package shell

import (
	"math"
	"math/rand"
	"reflect"
	"slices"
	"strconv"
	"strings"
	"testing"

	"tabard/api"
	"tabard/cell"
	"tabard/decimal"
	"tabard/engine"
	"tabard/eval"
	"tabard/exact"
	"tabard/locale"
	"tabard/pattern"
	"tabard/read"
	"tabard/render"
	"tabard/sheetio"
	"tabard/shortest"
)

func find(name string) locale.Locale {
	l, e := locale.Find(name)
	if e != api.OK {
		panic(name)
	}
	return l
}

func sheet(name string) *engine.Sheet {
	s, e := engine.New(name)
	if e != api.OK {
		panic(name)
	}
	return s
}

func at(s string) api.Ref {
	r, e := cell.Parse(s)
	if e != api.OK {
		panic(s)
	}
	return r
}

var names = strings.Fields("A1 B1 C1 A2 B2 C2 A3")

// someText is an entry of the locale en.
func someText(r *rand.Rand) string {
	name := func() string { return names[r.Intn(len(names))] }
	switch r.Intn(9) {
	case 0:
		return strconv.FormatFloat(math.Ldexp(r.Float64()-0.5, r.Intn(80)-30), 'g', -1, 64)
	case 1:
		return strconv.Itoa(r.Intn(2000)-1000) + "." + strconv.Itoa(r.Intn(1000))
	case 2:
		return []string{"abc", "'1.5", "true", "#N/A", "#CYCLE!", "", "1,5", "é", "'"}[r.Intn(9)]
	case 3:
		return "=SUM(" + name() + ":" + name() + ")"
	case 4:
		return "=" + name() + "&\"x\"&" + name()
	case 5:
		return "=IF(" + name() + ">" + name() + "," + name() + ",1.5)"
	case 6:
		return "=IFERROR(" + name() + ",-1)"
	}
	return "=" + name() + []string{"+", "-", "*", "/", "^"}[r.Intn(5)] + name()
}

var formats = []string{"", "0.00", "#,##0.0#;(0)", "0.0E+0", "# ?/?", "@", "General\" x\"", ";;;"}

// some is a sheet after random edits.
func some(r *rand.Rand) *engine.Sheet {
	s := sheet("en")
	for range r.Intn(30) {
		c, e := engine.Read(someText(r), find("en"))
		if e != api.OK || s.Put(at(names[r.Intn(len(names))]), c) != api.OK {
			panic(e)
		}
		s.Format(at(names[r.Intn(len(names))]), formats[r.Intn(len(formats))])
	}
	s.Move(locale.Names()[r.Intn(6)])
	return s
}

// seen is all that a sheet tells.
func seen(s *engine.Sheet) []any {
	l := []any{s.Name()}
	for _, i := range s.Cells() {
		a := cell.At(i)
		l = append(l, i, s.Content(a), s.Value(i), s.Pattern(a), s.Entry(a), s.Show(a))
	}
	return l
}

// model works a sheet out from its contents alone.
type model struct {
	s    *engine.Sheet
	done map[int]api.Value
}

func (m *model) needed(i int) []int {
	l := []int{}
	for _, k := range m.s.Cells() {
		if m.s.Content(cell.At(k)).Kind == engine.Formula && slices.ContainsFunc(eval.Needs(m.s.Content(cell.At(i)).Expr), func(a eval.Area) bool { return cell.Inside(cell.At(k), a.A, a.B) }) {
			l = append(l, k)
		}
	}
	return l
}

// cyclic: a path of formulas that need each other has no end.
func (m *model) cyclic(i, steps int) bool {
	return steps == 0 || slices.ContainsFunc(m.needed(i), func(k int) bool { return m.cyclic(k, steps-1) })
}

func (m *model) Value(i int) api.Value {
	c := m.s.Content(cell.At(i))
	if c.Kind != engine.Formula {
		return c.Value
	}
	if _, ok := m.done[i]; !ok {
		m.done[i] = api.Value{Kind: api.Fail, Fail: api.FailCycle}
		if !m.cyclic(i, len(names)) {
			m.done[i] = eval.New(find(m.s.Name())).Eval(c.Expr, m)
		}
	}
	return m.done[i]
}

func TestTH1(t *testing.T) {
	r := rand.New(rand.NewSource(1))
	numbers := shortest.New()
	for range 100 {
		s := some(r)
		m := &model{s, map[int]api.Value{}}
		script := "load\n" + sheetio.Save(s)
		want := "ok\n"
		for _, n := range names {
			i := cell.Index(at(n))
			v := m.Value(i)
			if s.Value(i) != v {
				t.Fatal(n, s.Value(i), v, sheetio.Save(s))
			}
			shown := s.Show(at(n))
			if p, _, _ := pattern.Parse(s.Pattern(at(n))); v.Kind == api.Number && s.Pattern(at(n)) != "" {
				shown, _ = render.Number(p, v.Bits, find(s.Name()))
			}
			script += "show " + n + "\n"
			want += sheetio.Quote(shown) + "\n"
			if v.Kind == api.Number {
				script += "value " + n + "\n"
				want += "number " + numbers.Print(v.Bits) + "\n"
			}
		}
		if out := Run(script); out != want {
			t.Fatalf("%q\n%q\n%q", script, out, want)
		}
		before := seen(s)
		for _, e := range []api.Errno{s.Set(at("A1"), "=1+"), s.Set(at("A1"), "1e400"), s.Format(at("A1"), "x"), s.Move("xx"), s.Put(at("A1"), engine.Content{Kind: 7}), s.Set(api.Ref{Row: 1000}, "1")} {
			if e == api.OK || !reflect.DeepEqual(before, seen(s)) {
				t.Fatal(e)
			}
		}
	}
}

func TestTH2(t *testing.T) {
	r := rand.New(rand.NewSource(2))
	for range 100 {
		s := some(r)
		other := sheet("hi")
		cells := s.Cells()
		r.Shuffle(len(cells), func(i, k int) { cells[i], cells[k] = cells[k], cells[i] })
		for _, i := range cells {
			other.Set(cell.At(i), "=A1+B1")
			other.Format(cell.At(i), s.Pattern(cell.At(i)))
		}
		other.Move(s.Name())
		for _, i := range cells {
			other.Put(cell.At(i), s.Content(cell.At(i)))
		}
		if !reflect.DeepEqual(seen(s), seen(other)) || sheetio.Save(s) != sheetio.Save(other) {
			t.Fatal(sheetio.Save(s), sheetio.Save(other))
		}
	}
}

func TestTH3(t *testing.T) {
	r := rand.New(rand.NewSource(3))
	for range 100 {
		s := some(r)
		again, e, line := sheetio.Load(sheetio.Save(s))
		if e != api.OK || line != 0 || !reflect.DeepEqual(seen(s), seen(again)) {
			t.Fatal(e, line)
		}
		for _, x := range []*engine.Sheet{s, again} {
			x.Set(at("B1"), "5")
			x.Format(at("C2"), "0%")
		}
		if !reflect.DeepEqual(seen(s), seen(again)) || s.Evals() != again.Evals() {
			t.Fatal(sheetio.Save(s))
		}
		for _, name := range locale.Names() {
			s.Move(name)
			before := seen(s)
			for _, i := range s.Cells() {
				if e := s.Set(cell.At(i), s.Entry(cell.At(i))); e != api.OK {
					t.Fatal(s.Entry(cell.At(i)), e)
				}
			}
			if !reflect.DeepEqual(before, seen(s)) {
				t.Fatal(name)
			}
		}
	}
}

func TestTH4(t *testing.T) {
	r := rand.New(rand.NewSource(4))
	parts := []string{"tabard 1\n", "locale en\n", "A1 ", "B1 ", "A2 ", "number 1\n", "number 0.5\n", "text \"a\"\n", "formula \"A1+1\"\n", "value ", "pattern \"0\"\n", "end 1\n", "end 2\n", "\n", "bool TRUE\n", "error #N/A\n", "x", "\""}
	for range 2000 {
		text := parts[0] + parts[1]
		for range r.Intn(12) {
			text += parts[r.Intn(len(parts))]
		}
		s, e, line := sheetio.Load(text)
		if (s == nil) != (e != api.OK) || (e != api.OK) != (line > 0) {
			t.Fatalf("%q %d %d", text, e, line)
		}
		if s == nil {
			continue
		}
		again, e, _ := sheetio.Load(sheetio.Save(s))
		if e != api.OK || len(s.Cells()) > api.MaxCells || !reflect.DeepEqual(seen(s), seen(again)) {
			t.Fatalf("%q", text)
		}
	}
	// The values in a file are not trusted.
	if out := Run("load\ntabard 1\nlocale en\nA1 formula \"1+1\"\nA1 value text \"no\"\nend 1\nvalue A1"); out != "ok\nnumber 2\n" {
		t.Error(out)
	}
}

func TestTH5(t *testing.T) {
	r := rand.New(rand.NewSource(5))
	numbers := read.New()
	for range 2000 {
		x := r.Uint64()
		if r.Intn(2) == 0 {
			x = math.Float64bits(float64(r.Intn(1e6)) / 1000)
		}
		s := sheet("en")
		if s.Put(at("A1"), engine.Content{Kind: engine.Constant, Value: api.Value{Kind: api.Number, Bits: x}}) != api.OK {
			continue
		}
		_, numeral, _ := strings.Cut(strings.Split(sheetio.Save(s), "\n")[2], "number ")
		back, e := numbers.Parse(numeral)
		d, _ := decimal.Parse(numeral)
		short, _ := decimal.Parse(strconv.FormatFloat(math.Float64frombits(x), 'e', -1, 64))
		if e != api.OK || back != x || len(d.Digits) != len(short.Digits) {
			t.Fatal(numeral)
		}
	}
}

func TestTH6(t *testing.T) {
	r := rand.New(rand.NewSource(6))
	numbers := read.New()
	for range 2000 {
		x := math.Float64bits(math.Ldexp(r.Float64()-0.5, r.Intn(200)-100))
		s := sheet(locale.Names()[r.Intn(6)])
		s.Put(at("A1"), engine.Content{Kind: engine.Constant, Value: api.Value{Kind: api.Number, Bits: x}})
		d, _ := exact.Sig(x, 15, api.Away)
		want, _ := numbers.Bits(d)
		if e := s.Set(at("B1"), s.Show(at("A1"))); e != api.OK || s.Value(1) != (api.Value{Kind: api.Number, Bits: want}) {
			t.Fatal(s.Show(at("A1")), e)
		}
	}
}

func TestTH7(t *testing.T) {
	r := rand.New(rand.NewSource(7))
	for range 300 {
		s := some(r)
		c, e := engine.Read(someText(r), find("en"))
		a := at(names[r.Intn(len(names))])
		before := map[int]api.Value{}
		for _, i := range s.Cells() {
			before[i] = s.Value(i)
		}
		if e != api.OK || s.Put(a, c) != api.OK {
			t.Fatal(e)
		}
		m := &model{s, nil}
		hangs := 0
		for _, i := range s.Cells() {
			if i == cell.Index(a) || m.hangs(i, cell.Index(a), len(names)) {
				hangs++
			} else if s.Value(i) != before[i] {
				t.Fatal(i)
			}
		}
		if s.Evals() > hangs {
			t.Fatal(s.Evals(), hangs)
		}
	}
}

// hangs tells whether cell i needs a cell, directly or through so many others.
func (m *model) hangs(i, target, steps int) bool {
	direct := slices.ContainsFunc(eval.Needs(m.s.Content(cell.At(i)).Expr), func(a eval.Area) bool { return cell.Inside(cell.At(target), a.A, a.B) })
	return direct || steps > 0 && slices.ContainsFunc(m.needed(i), func(k int) bool { return m.hangs(k, target, steps-1) })
}

func TestTH8(t *testing.T) {
	r := rand.New(rand.NewSource(8))
	s := sheet("en")
	for c, text := range map[string]string{"B1": "=ROUND(A1,2)", "C1": "=A1<A2", "D1": "=A1=A2", "E1": "=A1>A2", "F1": "=SUM(A1:A3)", "G1": "=0+A1+A2+A3"} {
		if s.Set(at(c), text) != api.OK {
			t.Fatal(c)
		}
	}
	s.Format(at("A1"), "0.00")
	for range 3000 {
		for _, c := range []string{"A1", "A2", "A3"} {
			s.Set(at(c), strconv.FormatFloat(float64(r.Intn(4001)-2000)/[]float64{1, 8, 200, 1000, 3}[r.Intn(5)], 'g', -1, 64))
		}
		s.Set(at("H1"), s.Show(at("A1")))
		rounded, shown := s.Value(1), s.Value(7)
		if rounded.Bits<<1 != shown.Bits<<1 || rounded.Bits<<1 != 0 && rounded != shown {
			t.Fatal(s.Entry(at("A1")), s.Show(at("A1")), rounded)
		}
		n := 0
		for i := 2; i <= 4; i++ {
			if s.Value(i) == (api.Value{Kind: api.Bool, Is: true}) {
				n++
			}
		}
		if n != 1 || s.Value(5) != s.Value(6) {
			t.Fatal(n, s.Value(5), s.Value(6))
		}
	}
}
