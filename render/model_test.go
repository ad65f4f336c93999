package render

import (
	"math"
	"math/big"
	"math/rand"
	"strconv"
	"strings"
	"testing"

	"tabard/api"
	"tabard/locale"
	"tabard/pattern"
)

// ten is a power of ten.
func ten(n int) *big.Rat {
	r, _ := new(big.Rat).SetString("1e" + strconv.Itoa(n))
	return r
}

// rows are the digits of a size with so many places, rounded: ahead of the point (none for 0), and behind it.
func rows(v *big.Rat, places int) (string, string) {
	x := new(big.Rat).Mul(v, ten(places))
	x.Add(x, big.NewRat(1, 2))
	s := new(big.Int).Quo(x.Num(), x.Denom()).String()
	for len(s) <= places {
		s = "0" + s
	}
	return strings.TrimLeft(s[:len(s)-places], "0"), s[len(s)-places:]
}

// complete tells whether so many digits are complete groups.
func complete(n int, l locale.Locale) bool {
	for i := 0; n > 0; i++ {
		n -= l.Sizes[min(i, len(l.Sizes)-1)]
	}
	return n == 0
}

// wholes displays a row by placeholders from the right to the left.
func wholes(holders []string, w string, grouped bool, l locale.Locale) []string {
	out := make([]string, len(holders))
	place := 0
	digit := func(i int, d string) {
		if grouped && place > 0 && complete(place, l) {
			d += l.Group
		}
		out[i] = d + out[i]
		place++
	}
	for i := len(holders) - 1; i >= 0; i-- {
		switch {
		case w != "":
			digit(i, w[len(w)-1:])
			w = w[:len(w)-1]
			for i == 0 && w != "" {
				digit(i, w[len(w)-1:])
				w = w[:len(w)-1]
			}
			continue
		case strings.Contains(strings.Join(holders[:i+1], ""), "0"):
			digit(i, "0")
			continue
		case holders[i] == "?":
			out[i] = " "
		}
		place++
	}
	return out
}

func behinds(holders []string, f string) []string {
	out := make([]string, len(holders))
	for i, h := range holders {
		switch {
		case strings.Trim(f[i:], "0") != "" || strings.Contains(strings.Join(holders[i:], ""), "0"):
			out[i] = f[i : i+1]
		case h == "?":
			out[i] = " "
		}
	}
	return out
}

// modelled displays a number by a section of the shape Number or Power, after the words of the document.
func modelled(s pattern.Section, x float64, l locale.Locale) string {
	var w, f, last []string
	stage, isPower := 0, false
	v := new(big.Rat).SetFloat64(math.Abs(x))
	for _, i := range s.Items {
		switch i.Kind {
		case pattern.Digit:
			*[]*[]string{&w, &f, &last}[stage] = append(*[]*[]string{&w, &f, &last}[stage], i.Text)
		case pattern.Point:
			stage = 1
		case pattern.Exp:
			stage, isPower = 2, true
		case pattern.Percent:
			v.Mul(v, big.NewRat(100, 1))
		}
	}
	v.Mul(v, ten(-3*s.Scale))
	whole, behind := rows(v, len(f))
	e, n := 0, max(len(w), 1)
	if isPower && v.Sign() != 0 {
		for v.Cmp(new(big.Rat).Mul(ten(e), ten(n))) >= 0 {
			e += n
		}
		for v.Cmp(ten(e)) < 0 {
			e -= n
		}
		if whole, behind = rows(new(big.Rat).Mul(v, ten(-e)), len(f)); len(whole) > n {
			e += n
			whole, behind = rows(new(big.Rat).Mul(v, ten(-e)), len(f))
		}
	}
	first, second := wholes(w, whole, s.Grouped, l), behinds(f, behind)
	exp := strconv.Itoa(max(e, -e))
	third := make([]string, len(last)+1)
	third[0] = strings.Repeat("0", max(len(last)-len(exp), 0)) + exp
	text := ""
	if x < 0 && strings.Trim(whole+behind, "0") != "" {
		text = l.Minus
	}
	stage = 0
	for _, i := range s.Items {
		switch i.Kind {
		case pattern.Digit:
			row := []*[]string{&first, &second, &third}[stage]
			text += (*row)[0]
			*row = (*row)[1:]
		case pattern.Point:
			stage = 1
			if len(w) == 0 {
				text += whole
			}
			text += l.Decimal
		case pattern.Exp:
			stage = 2
			text += "E"
			if e < 0 {
				text += "-"
			} else if i.Text == "+" {
				text += "+"
			}
		case pattern.Percent:
			text += l.Percent
		case pattern.Money:
			text += l.Currency
		default:
			text += i.Text
		}
	}
	return text
}

func TestR1Model(t *testing.T) {
	r := rand.New(rand.NewSource(11))
	pick := func(l ...string) string { return l[r.Intn(len(l))] }
	row := func(n int) string {
		s := ""
		for range r.Intn(n) {
			s += pick("0", "#", "?", "0", "#", "0", "#", "x", "0,0", "#,#", "$", "%")
		}
		return strings.ReplaceAll(s, "x", pick("-", `\x`, " "))
	}
	done := 0
	for range 60000 {
		text := row(7)
		if r.Intn(2) == 0 {
			text += pick(",", ",,", "") + "." + strings.ReplaceAll(row(6), ",", "")
		}
		if r.Intn(3) == 0 {
			text += pick("E+", "E-") + strings.ReplaceAll(row(5), ",", "")
		}
		p, e, _ := pattern.Parse(text)
		if e != api.OK || pattern.Shape(p.Sections[0]) != pattern.Number && pattern.Shape(p.Sections[0]) != pattern.Power {
			continue
		}
		done++
		x := []float64{0, float64(r.Intn(2000)-1000) / 8, math.Ldexp(r.Float64()-0.5, r.Intn(90)-30), float64(r.Intn(1000)) * math.Pow10(r.Intn(15)), 9.5, 99.95, 999999.5, -0.05}[r.Intn(8)]
		l := find(locale.Names()[r.Intn(6)])
		want := modelled(p.Sections[0], x, l)
		if s, e := Number(p, bitsOf(x), l); s != want || e != api.OK {
			t.Fatalf("%s %q %v: %q %d, not %q", l.Name, text, x, s, e, want)
		}
	}
	if done < 5000 {
		t.Error(done)
	}
}
