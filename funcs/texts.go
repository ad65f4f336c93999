package funcs

import (
	"slices"
	"strings"
	"unicode/utf8"

	"tabard/api"
	"tabard/pattern"
	"tabard/render"
	"tabard/value"
)

// characters are the runes of a text; a byte that belongs to none is one of its own.
func characters(s string) []string {
	l := []string{}
	for len(s) > 0 {
		_, size := utf8.DecodeRuneInString(s)
		l = append(l, s[:size])
		s = s[size:]
	}
	return l
}

func (k *call) ofCharacters(name string) api.Value {
	l := characters(k.text(0))
	switch name {
	case "LEN":
		return count(len(l))
	case "LEFT":
		return part(l, 0, k.intOr(1, 1))
	case "RIGHT":
		n := k.intOr(1, 1)
		return part(l, len(l)-min(n, len(l)), n)
	case "MID":
		from, n := k.int(1), k.int(2)
		if from < 1 {
			return value.Fail(api.FailValue)
		}
		return part(l, from-1, n)
	}
	in, from := characters(k.text(1)), k.intOr(2, 1)
	return find(l, in, from)
}

// part is n characters behind the first ones, or as many as there are.
func part(l []string, from, n int) api.Value {
	if n < 0 {
		return value.Fail(api.FailValue)
	}
	l = l[min(from, len(l)):]
	return value.Text(strings.Join(l[:min(n, len(l))], ""))
}

func find(l, in []string, from int) api.Value {
	if from < 1 || from > len(in)+1 {
		return value.Fail(api.FailValue)
	}
	for i := from - 1; i+len(l) <= len(in); i++ {
		if slices.Equal(in[i:i+len(l)], l) {
			return count(i + 1)
		}
	}
	return value.Fail(api.FailValue)
}

func (k *call) ofTexts(name string) api.Value {
	switch name {
	case "CONCAT":
		return k.concat()
	case "TEXT":
		return k.formatted(k.scalar(0), k.text(1))
	}
	s := k.text(0)
	switch name {
	case "UPPER":
		return value.Text(replaced(s, 'a', 'A'))
	case "LOWER":
		return value.Text(replaced(s, 'A', 'a'))
	case "TRIM":
		return value.Text(trimmed(s))
	case "REPT":
		return repeated(s, k.int(1))
	case "EXACT":
		return value.Bool(s == k.text(1))
	case "SUBSTITUTE":
		t, u := k.text(1), k.text(2)
		if t == "" {
			return value.Text(s)
		}
		return value.Text(strings.ReplaceAll(s, t, u))
	}
	x, fail := k.c.ops.ToNumber(value.Text(s))
	k.note(fail)
	return value.Number(x)
}

// replaced turns the 26 letters from a byte on into those from another one on.
func replaced(s string, from, to byte) string {
	b := []byte(s)
	for i, c := range b {
		if from <= c && c < from+26 {
			b[i] = c - from + to
		}
	}
	return string(b)
}

func trimmed(s string) string {
	words := []string{}
	for _, w := range strings.Split(s, " ") {
		if w != "" {
			words = append(words, w)
		}
	}
	return strings.Join(words, " ")
}

func repeated(s string, n int) api.Value {
	if n < 0 || s != "" && n > api.MaxText/len(s) {
		return value.Fail(api.FailValue)
	}
	if s == "" {
		return value.Text("")
	}
	return value.Text(strings.Repeat(s, n))
}

func (k *call) concat() api.Value {
	var b strings.Builder
	write := func(v api.Value) int {
		s, fail := k.c.ops.ToText(v)
		b.WriteString(s)
		return fail
	}
	k.note(each{write, write}.over(k.args))
	return value.Text(b.String())
}

func (k *call) formatted(v api.Value, text string) api.Value {
	p, err, _ := pattern.Parse(text)
	if err != api.OK {
		return value.Fail(api.FailValue)
	}
	s := ""
	switch v.Kind {
	case api.Fail:
		return v
	case api.Number, api.Empty:
		s, _ = render.Number(p, v.Bits, k.c.l)
	default:
		s, _ = k.c.ops.ToText(v)
		s, _ = render.Text(p, s, k.c.l)
	}
	return value.Text(s)
}
