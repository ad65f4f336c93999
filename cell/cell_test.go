package cell

import (
	"math"
	"math/rand"
	"slices"
	"strings"
	"testing"

	"tabard/api"
)

func ref(s string) api.Ref {
	r, e := Parse(s)
	if e != api.OK {
		panic(s)
	}
	return r
}

func TestV1(t *testing.T) {
	for _, c := range []struct {
		r  api.Ref
		ok bool
	}{{api.Ref{}, true}, {api.Ref{Col: 63, Row: 999}, true}, {api.Ref{Col: 64}, false}, {api.Ref{Row: 1000}, false}, {api.Ref{Col: -1}, false}, {api.Ref{Row: -1}, false}, {api.Ref{Col: math.MaxInt, Row: math.MinInt}, false}} {
		if Right(c.r) != c.ok || (Print(c.r) != "") != c.ok {
			t.Error(c)
		}
	}
	for _, c := range []struct {
		s string
		r api.Ref
		e api.Errno
	}{
		{"A1", api.Ref{}, 0}, {"$b$20", api.Ref{Col: 1, Row: 19, AbsCol: true, AbsRow: true}, 0}, {"BL1000", api.Ref{Col: 63, Row: 999}, 0}, {"$z9", api.Ref{Col: 25, Row: 8, AbsCol: true}, 0}, {"aA$1", api.Ref{Col: 26, AbsRow: true}, 0},
		{"BM1", api.Ref{}, api.ErrCell}, {"A1001", api.Ref{}, api.ErrCell}, {"ZZZ9999999", api.Ref{}, api.ErrCell}, {"$AAA$1", api.Ref{}, api.ErrCell},
		{"A0", api.Ref{}, api.ErrForm}, {"1A", api.Ref{}, api.ErrForm}, {"ABCD1", api.Ref{}, api.ErrForm}, {"", api.Ref{}, api.ErrForm}, {"A", api.Ref{}, api.ErrForm}, {"$A$", api.Ref{}, api.ErrForm}, {"A01", api.Ref{}, api.ErrForm}, {"A12345678", api.Ref{}, api.ErrForm}, {"$$A1", api.Ref{}, api.ErrForm}, {"A$$1", api.Ref{}, api.ErrForm}, {"A1 ", api.Ref{}, api.ErrForm}, {" A1", api.Ref{}, api.ErrForm}, {"A1$", api.Ref{}, api.ErrForm}, {"Ä1", api.Ref{}, api.ErrForm}, {"A-1", api.Ref{}, api.ErrForm}, {"A1B", api.Ref{}, api.ErrForm}, {"$1", api.Ref{}, api.ErrForm}, {"BM01", api.Ref{}, api.ErrForm},
	} {
		if r, e := Parse(c.s); r != c.r || e != c.e {
			t.Error(c, r, e)
		}
	}
	for _, c := range []struct {
		r    api.Ref
		want string
	}{{api.Ref{Col: 26}, "AA1"}, {api.Ref{Col: 64}, ""}, {ref("$b$20"), "$B$20"}, {api.Ref{Col: 51}, "AZ1"}, {api.Ref{Col: 52, AbsRow: true}, "BA$1"}, {api.Ref{Col: 25, Row: 999}, "Z1000"}} {
		if s := Print(c.r); s != c.want {
			t.Error(c, s)
		}
	}
}

func TestV2(t *testing.T) {
	for _, c := range []struct {
		r    api.Ref
		want int
	}{{api.Ref{Col: 1, Row: 1}, 65}, {api.Ref{Row: 1000}, -1}, {api.Ref{Col: 64}, -1}, {ref("$BL$1000"), 63999}} {
		if i := Index(c.r); i != c.want {
			t.Error(c, i)
		}
	}
	for _, i := range []int{-1, 64000, math.MaxInt, math.MinInt} {
		if r := At(i); r != (api.Ref{Col: -1, Row: -1}) {
			t.Error(i, r)
		}
	}
	if s := Print(At(63999)); s != "BL1000" || At(65) != (api.Ref{Col: 1, Row: 1}) {
		t.Error(s)
	}
}

func TestV3(t *testing.T) {
	names := func(a, b api.Ref) string {
		l := []string{}
		for r := range Cells(a, b) {
			l = append(l, Print(r))
		}
		return strings.Join(l, " ")
	}
	for _, c := range []struct {
		a, b string
		n    int
		want string
	}{{"$C3", "B$5", 6, "B3 C3 B4 C4 B5 C5"}, {"B2", "A1", 4, "A1 B1 A2 B2"}, {"B1", "A2", 4, "A1 B1 A2 B2"}, {"B3", "A1", 6, "A1 B1 A2 B2 A3 B3"}, {"$D$4", "D4", 1, "D4"}} {
		if n, s := Area(ref(c.a), ref(c.b)), names(ref(c.a), ref(c.b)); n != c.n || s != c.want {
			t.Error(c, n, s)
		}
	}
	bad := api.Ref{Col: 64}
	if Area(bad, ref("A1")) != 0 || Area(ref("A1"), bad) != 0 || names(bad, ref("A1"))+names(ref("A1"), bad) != "" || Area(ref("A1"), ref("BL1000")) != 64000 {
		t.Error("bounds")
	}
	for _, c := range []struct {
		r    string
		want bool
	}{{"D4", false}, {"B3", true}, {"C5", true}, {"$C$4", true}, {"B2", false}, {"B6", false}, {"A4", false}} {
		if Inside(ref(c.r), ref("$C3"), ref("B$5")) != c.want {
			t.Error(c)
		}
	}
	if Inside(bad, ref("A1"), ref("BL1000")) || Inside(ref("A1"), bad, ref("A1")) || Inside(ref("A1"), ref("A1"), bad) {
		t.Error("an invalid reference is inside")
	}
	// Stopped early, repeated, nested.
	seq := Cells(ref("A1"), ref("C2"))
	n := 0
	for range seq {
		for r := range seq {
			if n++; r.Row == 1 {
				break
			}
		}
	}
	if n != 24 || names(ref("A1"), ref("C2")) != "A1 B1 C1 A2 B2 C2" {
		t.Error(n)
	}
}

func TestV4(t *testing.T) {
	for _, c := range []struct {
		s          string
		cols, rows int
		want       string
	}{{"$A1", 2, 3, "$A4"}, {"A$1", 2, 3, "C$1"}, {"$A$1", math.MaxInt, math.MinInt, "$A$1"}, {"A1", 63, 999, "BL1000"}, {"A1", -1, 0, ""}, {"A1", 64, 0, ""}, {"A1", 0, 1000, ""}, {"B2", math.MaxInt, 0, ""}, {"B2", 0, math.MaxInt, ""}, {"B2", math.MinInt, 0, ""}} {
		r, ok := Moved(ref(c.s), c.cols, c.rows)
		if ok != (c.want != "") || ok && r != ref(c.want) || !ok && r != (api.Ref{}) {
			t.Error(c, r, ok)
		}
	}
	if r, ok := Moved(api.Ref{Col: 64}, -5, 0); ok || r != (api.Ref{}) {
		t.Error(r, ok)
	}
}

func TestV5(t *testing.T) {
	r := rand.New(rand.NewSource(5))
	for i := range 64000 {
		a := At(i)
		if Index(a) != i || !Right(a) || a.AbsCol || a.AbsRow {
			t.Fatal(i)
		}
		a.AbsCol, a.AbsRow = r.Intn(2) == 0, r.Intn(2) == 0
		s := Print(a)
		if b, e := Parse(strings.ToLower(s)); b != a || e != api.OK || Print(b) != s {
			t.Fatal(a, s, b, e)
		}
		cols, rows := r.Intn(20)-10, r.Intn(200)-100
		if b, ok := Moved(a, cols, rows); ok {
			if c, ok := Moved(b, -cols, -rows); c != a || !ok {
				t.Fatal(a, b, c)
			}
		}
	}
	for range 200 {
		a, b := At(r.Intn(64000)), At(r.Intn(64000))
		l := []int{}
		for c := range Cells(a, b) {
			if !Inside(c, a, b) {
				t.Fatal(a, b, c)
			}
			l = append(l, Index(c))
		}
		if len(l) != Area(a, b) || !slices.IsSorted(l) {
			t.Fatal(a, b)
		}
	}
}
