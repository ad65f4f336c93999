package render

import (
	"strconv"
	"strings"

	"tabard/api"
	"tabard/decimal"
	"tabard/exact"
	"tabard/nat"
)

// number finds the digits of a size; false: it is displayed as 0.
func (v *view) number(d api.Dec) bool {
	if v.percent {
		d = shifted(d, 2)
	}
	return v.digits(v.rounded(shifted(d, -3*v.scale)))
}

// shifted is a decimal times ten to the power of n.
func shifted(d api.Dec, n int) api.Dec {
	if d.Digits != "" {
		d.Exp += n
	}
	return d
}

func (v *view) rounded(d api.Dec) api.Dec {
	// Numbers are far from the bounds of decimals.
	d, _ = decimal.Place(d, v.places, api.Away)
	return d
}

// digits takes the rows of a decimal that has been rounded.
func (v *view) digits(d api.Dec) bool {
	row := d.Digits
	point := decimal.Point(d)
	if point < 0 {
		row, point = strings.Repeat("0", -point)+row, 0
	}
	size := point + v.places
	row += strings.Repeat("0", max(size-len(row), 0))
	v.wholeRow, v.behindRow = row[:point], row[point:]
	return d.Digits != ""
}

func (v *view) power(d api.Dec) bool {
	if v.percent {
		d = shifted(d, 2)
	}
	n := max(v.wholes, 1)
	if d.Digits != "" {
		v.exp = multiple(decimal.Point(d)-1, n)
	}
	r := v.rounded(shifted(d, -v.exp))
	if decimal.Point(r) > n {
		v.exp += n
		r = v.rounded(shifted(d, -v.exp))
	}
	v.lastText = strconv.Itoa(max(v.exp, -v.exp))
	v.lastText = strings.Repeat("0", max(v.lasts-len(v.lastText), 0)) + v.lastText
	return v.digits(r)
}

// multiple is the greatest multiple of n that isn't greater than v.
func multiple(v, n int) int {
	rest := v % n
	if rest < 0 {
		rest += n
	}
	return v - rest
}

func (v *view) fraction(x uint64) bool {
	most := 1
	for range v.lasts {
		most *= 10
	}
	f, _ := exact.Ratio(x, most-1)
	n, _ := nat.Parse("0" + f.Whole.Digits + strings.Repeat("0", f.Whole.Exp))
	v.lastText = strconv.Itoa(f.Den)
	if v.wholes > 0 {
		v.wholeRow = digitsOf(n)
		v.numeratorRow = strconv.Itoa(f.Num)
		v.noFraction = f.Num == 0
	} else {
		n, _ = nat.Mul(n, nat.Of(uint64(f.Den)))
		n, _ = nat.Add(n, nat.Of(uint64(f.Num)))
		v.numeratorRow = digitsOf(n)
	}
	return f.Whole.Digits != "" || f.Num != 0
}

// digitsOf writes no digits for 0.
func digitsOf(n nat.Nat) string {
	if nat.Len(n) == 0 {
		return ""
	}
	return nat.Digits(n)
}
