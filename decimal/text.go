package decimal

import (
	"strconv"
	"strings"

	"tabard/api"
)

// Where a numeral's next rune stands.
const (
	atStart = iota
	inWhole // in the first row of digits
	inPlaces
	atExp // behind the e
	inExp // behind the exponent's sign
)

const mostExp = 9 // the digits of an exponent

// numeral is what has been read of one.
type numeral struct {
	state    int
	neg      bool
	digits   []byte
	places   int
	negExp   bool
	exp      int
	expCount int
}

func Parse(s string) (api.Dec, api.Errno) {
	n := numeral{}
	for _, r := range s {
		if !n.take(r) {
			return api.Dec{}, api.ErrForm
		}
	}
	if len(n.digits) == 0 || n.state >= atExp && n.expCount == 0 {
		return api.Dec{}, api.ErrForm
	}
	if n.negExp {
		n.exp = -n.exp
	}
	return Make(n.neg, string(n.digits), n.exp-n.places)
}

// take goes on with a rune; false: it may not stand there.
func (n *numeral) take(r rune) bool {
	switch {
	case '0' <= r && r <= '9':
		return n.digit(r)
	case r == '-' && n.state == atStart:
		n.neg, n.state = true, inWhole
	case r == '.' && n.state <= inWhole:
		n.state = inPlaces
	case (r == 'e' || r == 'E') && n.state <= inPlaces:
		n.state = atExp
	case (r == '+' || r == '-') && n.state == atExp:
		n.negExp, n.state = r == '-', inExp
	default:
		return false
	}
	return true
}

func (n *numeral) digit(r rune) bool {
	switch n.state {
	case atStart:
		n.state = inWhole
	case inPlaces:
		n.places++
	case atExp, inExp:
		n.state = inExp
		n.exp = n.exp*10 + int(r-'0')
		n.expCount++
		return n.expCount <= mostExp
	}
	n.digits = append(n.digits, byte(r))
	return true
}

func Print(d api.Dec) string {
	if !Right(d) {
		return ""
	}
	sign := ""
	if d.Neg {
		sign = "-"
	}
	return sign + size(d.Digits, Point(d))
}

// size writes an absolute value.
func size(digits string, point int) string {
	switch {
	case digits == "":
		return "0"
	case 1 <= point && point <= 21:
		if len(digits) <= point {
			return digits + strings.Repeat("0", point-len(digits))
		}
		return digits[:point] + "." + digits[point:]
	case -5 <= point && point <= 0:
		return "0." + strings.Repeat("0", -point) + digits
	}
	return withExp(digits, point-1)
}

func withExp(digits string, exp int) string {
	head := digits[:1]
	if len(digits) > 1 {
		head += "." + digits[1:]
	}
	if exp < 0 {
		return head + "e" + strconv.Itoa(exp)
	}
	return head + "e+" + strconv.Itoa(exp)
}
