package nat

import (
	"math/bits"
	"strings"

	"tabard/api"
)

const (
	chunk      = 1000000000 // the greatest power of ten that a limb holds
	chunkSize  = 9
	mostDigits = 2467 // as many as 2^8192 - 1 has
)

// Digits writes a number, Parse reads one.
func Digits(a Nat) string {
	left := Trim(a)
	if len(left) == 0 {
		return "0"
	}
	// A limb gives less than ten digits; the row is filled from its end.
	row := make([]byte, len(left)*10+chunkSize)
	at := len(row)
	for len(left) > 0 {
		rest := divideShort(left, chunk)
		left = core(left)
		for range chunkSize {
			at--
			row[at] = '0' + byte(rest%10)
			rest /= 10
		}
	}
	return strings.TrimLeft(string(row[at:]), "0")
}

func Parse(s string) (Nat, api.Errno) {
	if s == "" {
		return nil, api.ErrForm
	}
	for i := range len(s) {
		if s[i] < '0' || s[i] > '9' {
			return nil, api.ErrForm
		}
	}
	digits := strings.TrimLeft(s, "0")
	if len(digits) > mostDigits {
		return nil, api.ErrOver
	}
	r := make(Nat, 0, len(digits)/chunkSize+1)
	for len(digits) > 0 {
		n := min(len(digits), chunkSize)
		r = grown(r, digits[:n])
		digits = digits[n:]
	}
	return bounded(r)
}

// grown appends decimal digits to a number, in its place.
func grown(a Nat, digits string) Nat {
	scale, carry := uint32(1), uint32(0)
	for i := range len(digits) {
		scale *= 10
		carry = carry*10 + uint32(digits[i]-'0')
	}
	for i := range len(a) {
		high, low := bits.Mul32(a[i], scale)
		sum, over := bits.Add32(low, carry, 0)
		a[i], carry = sum, high+over
	}
	if carry != 0 {
		a = append(a, carry)
	}
	return a
}
