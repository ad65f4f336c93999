package sheetio

import (
	"math/rand"
	"reflect"
	"slices"
	"strconv"
	"strings"
	"testing"

	"tabard/api"
	"tabard/cell"
	"tabard/engine"
	"tabard/formula"
	"tabard/locale"
)

func at(s string) api.Ref {
	r, e := cell.Parse(s)
	if e != api.OK {
		panic(s)
	}
	return r
}

func sheet(name string) *engine.Sheet {
	s, e := engine.New(name)
	if e != api.OK {
		panic(name)
	}
	return s
}

func TestO1(t *testing.T) {
	for _, c := range []struct{ s, want string }{{"a b~", `"a b~"`}, {"", `""`}, {`a"\`, `"a\"\\"`}, {"é\n\x00\x7f\xff\x1f", `"\xc3\xa9\x0a\x00\x7f\xff\x1f"`}, {`\x41`, `"\\x41"`}} {
		if s := Quote(c.s); s != c.want {
			t.Error(c, s)
		}
		if s, ok := Unquote(c.want); s != c.s || !ok {
			t.Error(c, s, ok)
		}
	}
	for _, s := range []string{`"\x61"`, "", `"`, `a`, `"a`, `a"`, `"a"b"`, `"\"`, `"\x"`, `"\x0"`, `"\xAB"`, `"\xC3"`, `"\n"`, `"\xg0"`, `"\x+1"`, "\"é\"", "\"\n\"", `"\\\"`, ` "a"`, `"a" `, `"\x5c"`, `"\x22"`, `"\`} {
		if u, ok := Unquote(s); u != "" || ok {
			t.Errorf("%q: %q %v", s, u, ok)
		}
	}
	r := rand.New(rand.NewSource(1))
	for range 5000 {
		b := make([]byte, r.Intn(8))
		for i := range b {
			b[i] = []byte{byte(r.Intn(256)), '"', '\\', 'x'}[r.Intn(4)]
		}
		if s, ok := Unquote(Quote(string(b))); s != string(b) || !ok {
			t.Fatalf("%q", b)
		}
		if s, ok := Unquote(`"` + string(b) + `"`); ok && Quote(s) != `"`+string(b)+`"` {
			t.Fatalf("%q", b)
		}
	}
}

const example = `tabard 1
locale de
A1 number 0.1
B1 formula "A1*2"
B1 value number 0.2
A2 text "a\"\xc3\xa9"
A2 pattern "0.0"
end 3
`

func TestO2(t *testing.T) {
	if s := Save(sheet("en")); s != "tabard 1\nlocale en\nend 0\n" {
		t.Error(s)
	}
	s := sheet("de")
	s.Set(at("A1"), "0,1")
	s.Set(at("B1"), "=A1*2")
	s.Set(at("A2"), `a"é`)
	s.Format(at("A2"), "0.0")
	if text := Save(s); text != example {
		t.Error(text)
	}
	s = sheet("fr")
	for c, text := range map[string]string{"A1": "true", "B1": "#DIV/0!", "C1": "-1e-7", "D1": `="a;b"&1,5`, "E1": "=1=1", "F1": "=1/0", "A2": "=E1:E2", "B2": "'", "C2": "=F1+SUM(A1;B1)"} {
		if e := s.Set(at(c), text); e != api.OK {
			t.Fatal(c, e)
		}
	}
	s.Format(at("G1"), `"é"0`)
	s.Format(at("F1"), "0")
	want := "tabard 1\nlocale fr\nA1 bool TRUE\nB1 error #DIV/0!\nC1 number -1e-7\nD1 formula \"\\\"a;b\\\"&1.5\"\nD1 value text \"a;b1,5\"\nE1 formula \"1=1\"\nE1 value bool TRUE\nF1 formula \"1/0\"\nF1 value error #DIV/0!\nF1 pattern \"0\"\nG1 pattern \"\\\\\\xc3\\xa90\"\nA2 formula \"E1:E2\"\nA2 value error #VALUE!\nB2 text \"\"\nC2 formula \"F1+SUM(A1,B1)\"\nC2 value error #DIV/0!\nend 9\n"
	if text := Save(s); text != strings.Replace(want, "end 9", "end 10", 1) {
		t.Error(text)
	}
	_ = Save(nil) + Save(&engine.Sheet{})
}

func snapshot(s *engine.Sheet) []any {
	l := []any{s.Name()}
	for _, i := range s.Cells() {
		l = append(l, i, s.Content(cell.At(i)), s.Value(i), s.Pattern(cell.At(i)))
	}
	return l
}

func TestO3(t *testing.T) {
	s, e, line := Load(example)
	if e != api.OK || line != 0 || Save(s) != example || s.Evals() != 0 || s.Show(at("B1")) != "0,2" {
		t.Fatal(e, line)
	}
	for _, text := range []string{"tabard 1\nlocale en\nend 0\n", strings.Replace(example, "value number 0.2", "value number 7", 1), strings.Replace(example, "value number 0.2", `value text "`+strings.Repeat("a", 1000)+`"`, 1), strings.Replace(example, "value number 0.2", "value error #N/A", 1)} {
		s, e, line := Load(text)
		if e != api.OK || line != 0 || len(s.Cells()) > 0 && Save(s) != example {
			t.Error(text, e, line)
		}
	}
	if s, _, _ := Load("tabard 1\nlocale en\nB1 formula \"A2\"\nB1 value number 0\nA2 number 3\nend 2\n"); s.Evals() != 1 || s.Value(1).Bits != 0x4008000000000000 {
		t.Error(s.Evals())
	}
}

func TestO3Errors(t *testing.T) {
	rep := strings.Repeat
	head := "tabard 1\nlocale en\n"
	many := ""
	for i := range 2001 {
		many += cell.Print(cell.At(i)) + " number 1\n"
		if i == 1999 && strings.Count(many, "\n") != 2000 {
			t.Fatal("many")
		}
	}
	two := strings.Join(strings.SplitAfter(many, "\n")[:2000], "")
	for _, c := range []struct {
		text string
		e    api.Errno
		line int
	}{
		{"", api.ErrForm, 1}, {"tabard 1", api.ErrForm, 1}, {"tabard 2\n", api.ErrForm, 1}, {"tabard 1\r\n", api.ErrForm, 1}, {"tabard 1\n", api.ErrForm, 2}, {"tabard 1\nlocale en", api.ErrForm, 2}, {"tabard 1\nlocale\n", api.ErrForm, 2}, {"tabard 1\nlocale \n", api.ErrName, 2}, {"tabard 1\nlocale EN\n", api.ErrName, 2}, {"tabard 1\nlocale xx", api.ErrForm, 2}, {head, api.ErrForm, 3}, {rep("a", 1000001), api.ErrLong, 0}, {rep("a", 1000000), api.ErrForm, 1},
		{head + "end 1\n", api.ErrSum, 3}, {head + "end 0", api.ErrForm, 3}, {head + "end\n", api.ErrForm, 3}, {head + "end \n", api.ErrForm, 3}, {head + "end 00\n", api.ErrForm, 3}, {head + "end -1\n", api.ErrForm, 3}, {head + "end +0\n", api.ErrForm, 3}, {head + "end 0 \n", api.ErrForm, 3}, {head + "end 99999999999999999999\n", api.ErrSum, 3}, {head + "end 0\n\n", api.ErrForm, 4}, {head + "end 0\nx", api.ErrForm, 4}, {head + "end 1\nx", api.ErrSum, 3}, {head + "END 0\n", api.ErrForm, 3}, {head + "A1 number 1\nend 2\n", api.ErrSum, 4},
		{head + "\n", api.ErrForm, 3}, {head + "A1\n", api.ErrForm, 3}, {head + "a1 number 1\n", api.ErrForm, 3}, {head + "$A1 number 1\n", api.ErrForm, 3}, {head + "A$1 number 1\n", api.ErrForm, 3}, {head + "BM1 number 1\n", api.ErrForm, 3}, {head + "A1  number 1\n", api.ErrForm, 3}, {head + " A1 number 1\n", api.ErrForm, 3}, {head + "A01 number 1\n", api.ErrForm, 3}, {head + "A1 number 1", api.ErrForm, 3},
		{head + "B1 number 1\nA1 number 1\n", api.ErrOrder, 4}, {head + "A2 number 1\nB1 junk\n", api.ErrOrder, 4}, {head + "A1 number 1\nA1 number 1\n", api.ErrForm, 4}, {head + "A1 number 1\nA1 text \"a\"\n", api.ErrForm, 4}, {head + "A1 pattern \"0\"\nA1 number 1\n", api.ErrForm, 4}, {head + "A1 pattern \"0\"\nA1 pattern \"0\"\n", api.ErrForm, 4}, {head + "A1 value number 1\n", api.ErrForm, 3}, {head + "A1 number 1\nA1 value number 1\n", api.ErrForm, 4}, {head + "A1 number 1\nA1 formula \"1\"\n", api.ErrForm, 4}, {head + "A1 formula \"1\"\nA1 value number 1\nA1 value number 1\n", api.ErrForm, 5},
		{head + "A1 formula \"1\"\nend 1\n", api.ErrForm, 4}, {head + "A1 formula \"1\"\n", api.ErrForm, 4}, {head + "A1 formula \"1\"\nB1 value number 1\n", api.ErrForm, 4}, {head + "B1 formula \"1\"\nA1 number 1\n", api.ErrForm, 4}, {head + "A1 formula \"1\"\nA1 pattern \"0\"\n", api.ErrForm, 4}, {head + "A1 formula \"1\"\nA1 value number 01\n", api.ErrForm, 4}, {head + "A1 formula \"1\"\nA1 value empty\n", api.ErrForm, 4}, {head + "A1 formula \"1\"\nA1 value \n", api.ErrForm, 4}, {head + "A1 formula \"1\"\nA1 value formula \"1\"\n", api.ErrForm, 4}, {head + "A1 formula \"1\"\nA1 value text \"" + rep("a", 1001) + "\"\n", api.ErrArg, 4},
		{head + "A1 junk 1\n", api.ErrForm, 3}, {head + "A1 number\n", api.ErrForm, 3}, {head + "A1 number \n", api.ErrForm, 3}, {head + "A1 number 1.0\n", api.ErrForm, 3}, {head + "A1 number inf\n", api.ErrForm, 3}, {head + "A1 number nan\n", api.ErrForm, 3}, {head + "A1 number 1e400\n", api.ErrForm, 3}, {head + "A1 number 1 \n", api.ErrForm, 3}, {head + "A1 text a\n", api.ErrForm, 3}, {head + "A1 text \"\\x61\"\n", api.ErrForm, 3}, {head + "A1 bool true\n", api.ErrForm, 3}, {head + "A1 error #n/a\n", api.ErrForm, 3}, {head + "A1 error \n", api.ErrForm, 3}, {head + "A1 formula 1\n", api.ErrForm, 3}, {head + "A1 pattern 0\n", api.ErrForm, 3},
		{head + "A1 text \"" + rep("a", 1000) + "\"\n", api.ErrArg, 3}, {head + "A1 formula \"" + rep("1", 1000) + "\"\n", api.ErrArg, 3}, {head + "A1 formula \"1+\"\n", api.ErrForm, 3}, {head + "A1 formula \"\"\n", api.ErrForm, 3}, {head + "A1 formula \"1 \"\n", api.ErrForm, 3}, {head + "A1 formula \"a1\"\n", api.ErrForm, 3}, {head + "A1 formula \"(1)\"\n", api.ErrForm, 3}, {head + "A1 formula \"" + rep("(", 999) + "\"\n", api.ErrForm, 3}, {head + "A1 pattern \"\"\n", api.ErrPattern, 3}, {head + "A1 pattern \"x\"\n", api.ErrPattern, 3}, {head + "A1 pattern \"\\\"a\\\"\"\n", api.ErrPattern, 3}, {head + "A1 pattern \"" + rep(" ", 1001) + "\"\n", api.ErrPattern, 3}, {head + "A1 pattern \"" + rep(" ", 101) + "\"\n", api.ErrPattern, 3},
		{head + many + "end 2001\n", api.ErrMany, 2003}, {head + two + "AZ32 pattern \"x\"\n", api.ErrPattern, 2003}, {head + two + "AZ32 junk\n", api.ErrForm, 2003}, {head + two + "end 1999\n", api.ErrSum, 2003},
	} {
		if s, e, line := Load(c.text); s != nil || e != c.e || line != c.line {
			t.Errorf("%.70q: %d %d, not %d %d", c.text, e, line, c.e, c.line)
		}
	}
	if s, e, line := Load(head + two + "end 2000\n"); e != api.OK || line != 0 || len(s.Cells()) != 2000 {
		t.Error(e, line)
	}
	if s, e, line := Load(head + two[:len(two)-1] + "\n" + cell.Print(cell.At(1999)) + " pattern \"0\"\nend 2000\n"); e != api.OK || line != 0 || s.Pattern(cell.At(1999)) != "0" {
		t.Error(e, line)
	}
}

// random is a sheet of some cells of all kinds.
func random(r *rand.Rand) *engine.Sheet {
	s := sheet(locale.Names()[r.Intn(6)])
	names := strings.Fields("A1 B1 C1 A2 B2 C2 BL1000")
	f, _ := locale.Find("en")
	for range r.Intn(20) {
		c := at(names[r.Intn(len(names))])
		text := []string{"1", "0.1", "abc", "'5", "true", "#N/A", "=A1+B1", "=SUM(A1:C2)", "=1/3", "=\"é\n\"&B2", "=IF(A1>1,B1,C1)", "", "\xff\"\\", "=B1&1.5", "-1e-300", "=C1", "#CYCLE!"}[r.Intn(17)]
		content, e := engine.Read(text, f)
		if e != api.OK || s.Put(c, content) != api.OK {
			panic(text)
		}
		if r.Intn(3) == 0 {
			s.Format(c, []string{"0.00", "", "#,##0;(0);\"é\"", "@", "General"}[r.Intn(5)])
		}
	}
	return s
}

func TestO4(t *testing.T) {
	r := rand.New(rand.NewSource(4))
	for range 300 {
		s := random(r)
		text := Save(s)
		again, e, line := Load(text)
		if e != api.OK || line != 0 || Save(again) != text || !reflect.DeepEqual(snapshot(s), snapshot(again)) {
			t.Fatalf("%q %d %d", text, e, line)
		}
		cut := r.Intn(len(text))
		if s, e, _ := Load(text[:cut]); s != nil || e == api.OK {
			t.Fatalf("%q", text[:cut])
		}
	}
	accepted := 0
	for range 3000 {
		lines := strings.SplitAfter(Save(random(r)), "\n")
		i, k := r.Intn(len(lines)), r.Intn(len(lines))
		switch r.Intn(4) {
		case 0:
			lines[i], lines[k] = lines[k], lines[i]
		case 1:
			lines = slices.Delete(lines, i, i+1)
		case 2:
			b := []byte(lines[i])
			if len(b) > 0 {
				b[r.Intn(len(b))] = "\n \"\\x0159AB$é"[r.Intn(13)]
			}
			lines[i] = string(b)
		case 3:
			for n := range lines {
				if strings.HasPrefix(lines[n], "end ") {
					lines[n] = "end " + strconv.Itoa(r.Intn(8)) + "\n"
				}
			}
		}
		text := strings.Join(lines, "")
		s, e, line := Load(text)
		if e != api.OK {
			if s != nil || line < 1 || line > strings.Count(text, "\n")+1 {
				t.Fatalf("%q %d %d", text, e, line)
			}
			continue
		}
		accepted++
		if stripped(Save(s)) != stripped(text) {
			t.Fatalf("%q %q", text, Save(s))
		}
		for _, i := range s.Cells() {
			if c := s.Content(cell.At(i)); !engine.Right(c) || c.Kind == engine.Formula && !formula.Right(c.Expr) {
				t.Fatalf("%q", text)
			}
		}
	}
	if accepted < 50 {
		t.Error(accepted)
	}
}

// stripped is a file without its values.
func stripped(text string) string {
	lines := strings.Split(text, "\n")
	return strings.Join(slices.DeleteFunc(lines, func(s string) bool {
		_, rest, _ := strings.Cut(s, " ")
		return strings.HasPrefix(rest, "value ")
	}), "\n")
}
