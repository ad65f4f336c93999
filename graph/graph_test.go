package graph

import (
	"math"
	"math/rand"
	"slices"
	"strings"
	"testing"

	"tabard/api"
	"tabard/cell"
	"tabard/eval"
)

func at(s string) api.Ref {
	r, e := cell.Parse(s)
	if e != api.OK {
		panic(s)
	}
	return r
}

func idx(s string) int { return cell.Index(at(s)) }

func list(s string) []int {
	l := []int{}
	for _, x := range strings.Fields(s) {
		l = append(l, idx(x))
	}
	return l
}

func names(l []int) string {
	s := []string{}
	for _, i := range l {
		s = append(s, cell.Print(cell.At(i)))
	}
	return strings.Join(s, " ")
}

func areas(s string) []eval.Area {
	l := []eval.Area{}
	for _, x := range strings.Fields(s) {
		a, b, ok := strings.Cut(x, ":")
		if !ok {
			b = a
		}
		l = append(l, eval.Area{A: at(a), B: at(b)})
	}
	return l
}

// made is a graph of lines like B1=A1.
func made(t *testing.T, s string) *Graph {
	g := New()
	for _, line := range strings.Split(s, ";") {
		c, l, _ := strings.Cut(strings.TrimSpace(line), "=")
		if e := g.Set(idx(c), areas(l)); e != api.OK {
			t.Fatal(line, e)
		}
	}
	return g
}

func TestZ1(t *testing.T) {
	g := New()
	if len(g.Cells()) > 0 {
		t.Error(g.Cells())
	}
	bad := eval.Area{A: at("B1"), B: at("A1")}
	for i, c := range []struct {
		cell int
		l    []eval.Area
		e    api.Errno
	}{
		{64000, []eval.Area{bad}, api.ErrCell}, {-1, nil, api.ErrCell}, {math.MaxInt, nil, api.ErrCell}, {0, []eval.Area{bad}, api.ErrArg}, {0, []eval.Area{{A: at("A2"), B: at("A1")}}, api.ErrArg}, {0, []eval.Area{{A: at("$A1"), B: at("A1")}}, api.ErrArg}, {0, []eval.Area{{A: at("A1"), B: at("A$1")}}, api.ErrArg}, {0, []eval.Area{{B: api.Ref{Col: 64}}}, api.ErrArg}, {0, []eval.Area{{A: api.Ref{Row: -1}}}, api.ErrArg}, {0, append(slices.Repeat(areas("A1"), 500), bad), api.ErrArg}, {0, slices.Repeat(areas("A1"), 501), api.ErrMany}, {0, nil, api.OK}, {0, slices.Repeat(areas("A1"), 500), api.OK}, {0, []eval.Area{}, api.OK}, {63999, areas("A1:BL1000"), api.OK},
	} {
		if e := g.Set(c.cell, c.l); e != c.e {
			t.Error(i, e)
		}
	}
	g = New()
	for i := range 2000 {
		if e := g.Set(i, areas("A1")); e != api.OK {
			t.Fatal(i, e)
		}
	}
	before := g.Cells()
	if g.Set(2000, areas("A1")) != api.ErrMany || g.Set(2000, nil) != api.OK || g.Set(5, areas("B1")) != api.OK || g.Set(2000, []eval.Area{bad}) != api.ErrArg || !slices.Equal(g.Cells(), before) || len(g.Areas(2000)) > 0 {
		t.Error("2000 cells")
	}
	if g.Set(7, nil) != api.OK || g.Set(2000, areas("A1")) != api.OK || len(g.Cells()) != 2000 {
		t.Error("a cell that has no areas any more")
	}
}

func TestZ2(t *testing.T) {
	g := made(t, "A9=A1; B1=A1; C1=A1:B1; D1=D1 B2 A1:A1; E5=F6")
	if s := names(g.Cells()); s != "B1 C1 D1 E5 A9" {
		t.Error(s)
	}
	for c, want := range map[string]string{"A1": "B1 C1 D1 A9", "B1": "C1", "D1": "D1", "B2": "D1", "C1": "", "BL1000": ""} {
		if s := names(g.Direct(idx(c))); s != want {
			t.Error(c, s)
		}
	}
	for _, c := range []int{-1, 64000, math.MinInt, math.MaxInt} {
		if len(g.Direct(c)) > 0 || len(g.Areas(c)) > 0 {
			t.Error(c)
		}
	}
	if !slices.Equal(g.Areas(idx("D1")), areas("D1 B2 A1:A1")) || len(g.Areas(idx("A1"))) > 0 {
		t.Error(g.Areas(idx("D1")))
	}
	// P3: neither the caller's list nor the answer is the graph's.
	l := areas("A1 B2")
	g.Set(idx("C9"), l)
	l[0] = eval.Area{A: at("Z9"), B: at("Z9")}
	g.Areas(idx("C9"))[1] = l[0]
	if !slices.Equal(g.Areas(idx("C9")), areas("A1 B2")) {
		t.Error(g.Areas(idx("C9")))
	}
	g.Set(idx("C9"), nil)
	if len(g.Areas(idx("C9"))) > 0 || strings.Contains(names(g.Cells()), "C9") {
		t.Error("C9")
	}
}

func TestZ3(t *testing.T) {
	for _, c := range []struct{ graph, from, want string }{
		{"B1=A1; C1=A1:B1; D1=D1", "A1", "B1 C1"}, {"B1=A1; C1=A1:B1; D1=D1", "D1", "D1"}, {"A1=B1; B1=A1; C1=B1", "A1", "A1 B1 C1"}, {"D1=D1; A9=C1:D2", "D1", "D1 A9"}, {"B1=A1; C1=B1; D1=C1", "A1 C1", "B1 C1 D1"}, {"B1=A1", "B1", ""}, {"B1=A1", "", ""}, {"B1=A1; A1=C1", "A1 A1 B1", "B1"}, {"BL1000=A1; A2=BL1000", "A1", "A2 BL1000"},
	} {
		if s := names(made(t, c.graph).After(list(c.from))); s != c.want {
			t.Error(c, s)
		}
	}
	if s := names(made(t, "B1=A1:BL1000").After([]int{-1, 64000, math.MaxInt, math.MinInt})); s != "" {
		t.Error(s)
	}
}

func TestZ4(t *testing.T) {
	for _, c := range []struct{ graph, from, first, second string }{
		{"C1=A1; A1=B1", "A1 B1 C1", "B1 A1 C1", ""}, {"B1=A1; C1=A1:B1; D1=D1", "D1 C1 B1 A1 A1", "A1 B1 C1", "D1"}, {"A1=B1; B1=A1; C1=B1", "A1 B1 C1 D1", "D1", "A1 B1 C1"}, {"A1=Z9; B1=A2; A2=C3", "A1 B1 A2", "A1 A2 B1", ""}, {"A1=A2; B1=A3", "A1 B1 A2 A3", "A2 A1 A3 B1", ""}, {"A1=B1:BL1000", "A1 BL1000 C5", "C5 BL1000 A1", ""}, {"A1=B1", "", "", ""}, {"A1=B1; B1=C1; C1=A1; D1=C1; E1=F1", "D1 E1", "D1 E1", ""}, {"A1=A1:B2", "B2 A1", "B2", "A1"},
	} {
		a, b := made(t, c.graph).Order(list(c.from))
		if names(a) != c.first || names(b) != c.second {
			t.Error(c, names(a), names(b))
		}
	}
	if a, b := New().Order([]int{-1, 64000, 7, math.MinInt, math.MaxInt}); !slices.Equal(a, []int{7}) || len(b) > 0 {
		t.Error(a, b)
	}
}

// naive follows the words of the document.
type naive map[int][]eval.Area

func (n naive) needs(c, d int) bool {
	return slices.ContainsFunc(n[c], func(a eval.Area) bool { return cell.Inside(cell.At(d), a.A, a.B) })
}

func (n naive) after(l []int) []int {
	found := map[int]bool{}
	for again := true; again; {
		again = false
		for c := range n {
			for _, d := range l {
				if !found[c] && n.needs(c, d) {
					found[c], again = true, true
				}
			}
			for d := range found {
				if !found[c] && n.needs(c, d) {
					found[c], again = true, true
				}
			}
		}
	}
	r := []int{}
	for c := range found {
		r = append(r, c)
	}
	slices.Sort(r)
	return r
}

func (n naive) order(l []int) ([]int, []int) {
	rest := slices.Compact(slices.Sorted(slices.Values(l)))
	first := []int{}
	for {
		i := slices.IndexFunc(rest, func(c int) bool {
			return !slices.ContainsFunc(rest, func(d int) bool { return n.needs(c, d) })
		})
		if i < 0 {
			return first, rest
		}
		first = append(first, rest[i])
		rest = slices.Delete(rest, i, i+1)
	}
}

func TestZ5(t *testing.T) {
	r := rand.New(rand.NewSource(5))
	some := func() int { return r.Intn(4) + 64*r.Intn(5) }
	for range 3000 {
		g, n := New(), naive{}
		for range r.Intn(14) {
			c, l := some(), []eval.Area{}
			for range r.Intn(3) {
				a, b := cell.At(some()), cell.At(some())
				if r.Intn(2) == 0 {
					b = a
				}
				l = append(l, eval.Area{A: api.Ref{Col: min(a.Col, b.Col), Row: min(a.Row, b.Row)}, B: api.Ref{Col: max(a.Col, b.Col), Row: max(a.Row, b.Row)}})
			}
			g.Set(c, l)
			g.Set(c, g.Areas(c))
			n[c] = l
		}
		l := []int{}
		for range r.Intn(15) {
			l = append(l, some())
		}
		before := slices.Clone(l)
		after := g.After(l)
		if !slices.Equal(after, n.after(l)) {
			t.Fatal(n, l, after)
		}
		for _, c := range g.After(after) {
			if !slices.Contains(after, c) {
				t.Fatal(n, l)
			}
		}
		a, b := g.Order(l)
		wantA, wantB := n.order(l)
		if !slices.Equal(a, wantA) || !slices.Equal(b, wantB) || !slices.Equal(l, before) {
			t.Fatal(n, l, a, b)
		}
		for d := range 300 {
			direct := []int{}
			for _, c := range g.Cells() {
				if n.needs(c, d) {
					direct = append(direct, c)
				}
			}
			if !slices.Equal(g.Direct(d), direct) {
				t.Fatal(n, d)
			}
		}
	}
}

// A chain of as many cells as there may be, and cells with great areas.
func TestZ5Large(t *testing.T) {
	g := New()
	for i := range 2000 {
		a := cell.At(i)
		if g.Set(i+1, []eval.Area{{A: api.Ref{}, B: a}}) != api.OK && i < 63 {
			t.Fatal(i)
		}
		if i >= 63 {
			g.Set(i+1, []eval.Area{{A: a, B: a}})
		}
	}
	all := make([]int, 64000)
	for i := range all {
		all[i] = 63999 - i
	}
	a, b := g.Order(all)
	if len(g.After([]int{0})) != 2000 || len(a) != 64000 || len(b) > 0 || !slices.IsSorted(a) {
		t.Error(len(a), len(b))
	}
	g = New()
	for i := range 2000 {
		g.Set(63999-i, areas("A1:BL968"))
	}
	if a, b := g.Order(all); len(a) != 64000 || len(b) > 0 || len(g.After(all)) != 2000 {
		t.Error(len(a), len(b))
	}
}
