// Package nat: naturals of any size, up to a bound: layer 1: see shared/doc/01-nat.md.
package nat

import (
	"math/bits"

	"tabard/api"
)

// Nat is a natural number: its limbs, the lowest first.
type Nat []uint32

const limbBits = 32

// core is the part of a without leading zeros; it shares a's memory.
func core(a Nat) Nat {
	n := len(a)
	for n > 0 && a[n-1] == 0 {
		n--
	}
	return a[:n]
}

// fits tells whether all the numbers are within the bound.
func fits(l ...Nat) bool {
	for _, a := range l {
		if len(core(a)) > api.MaxLimbs {
			return false
		}
	}
	return true
}

// bounded is a new number, or the error that it is too big.
func bounded(a Nat) (Nat, api.Errno) {
	if !fits(a) {
		return nil, api.ErrOver
	}
	return core(a), api.OK
}

func Trim(a Nat) Nat {
	c := core(a)
	r := make(Nat, len(c))
	copy(r, c)
	return r
}

func Of(v uint64) Nat {
	return core(Nat{uint32(v), uint32(v >> limbBits)})
}

func Value(a Nat) (uint64, bool) {
	c := core(a)
	switch len(c) {
	case 0:
		return 0, true
	case 1:
		return uint64(c[0]), true
	case 2:
		return uint64(c[1])<<limbBits | uint64(c[0]), true
	}
	return 0, false
}

// Len is how many bits a number has.
func Len(a Nat) int {
	c := core(a)
	if len(c) == 0 {
		return 0
	}
	return (len(c)-1)*limbBits + bits.Len32(c[len(c)-1])
}

func Cmp(a, b Nat) int {
	x, y := core(a), core(b)
	if len(x) != len(y) {
		return order(len(x) < len(y))
	}
	for i := range len(x) {
		k := len(x) - 1 - i
		if x[k] != y[k] {
			return order(x[k] < y[k])
		}
	}
	return 0
}

func order(less bool) int {
	if less {
		return -1
	}
	return 1
}

func Add(a, b Nat) (Nat, api.Errno) {
	if !fits(a, b) {
		return nil, api.ErrOver
	}
	x, y := core(a), core(b)
	if len(x) < len(y) {
		x, y = y, x
	}
	sum := make(Nat, len(x)+1)
	copy(sum, x)
	carry := uint64(0)
	for i := range len(sum) {
		carry += uint64(sum[i])
		if i < len(y) {
			carry += uint64(y[i])
		}
		sum[i] = uint32(carry)
		carry >>= limbBits
	}
	return bounded(sum)
}

func Sub(a, b Nat) (Nat, api.Errno) {
	if !fits(a, b) {
		return nil, api.ErrOver
	}
	if Cmp(a, b) < 0 {
		return nil, api.ErrRange
	}
	rest, y := Trim(a), core(b)
	borrow := uint32(0)
	for i := range len(rest) {
		low := uint32(0)
		if i < len(y) {
			low = y[i]
		}
		rest[i], borrow = bits.Sub32(rest[i], low, borrow)
	}
	return core(rest), api.OK
}

func Mul(a, b Nat) (Nat, api.Errno) {
	if !fits(a, b) {
		return nil, api.ErrOver
	}
	x, y := core(a), core(b)
	product := make(Nat, len(x)+len(y))
	for i := range len(x) {
		carry := uint64(0)
		for k := range len(y) {
			carry += uint64(x[i])*uint64(y[k]) + uint64(product[i+k])
			product[i+k] = uint32(carry)
			carry >>= limbBits
		}
		product[i+len(y)] = uint32(carry)
	}
	return bounded(product)
}

func DivMod(a, b Nat) (Nat, Nat, api.Errno) {
	if !fits(a, b) {
		return nil, nil, api.ErrOver
	}
	x, y := core(a), core(b)
	if len(y) == 0 {
		return nil, nil, api.ErrDiv
	}
	if Cmp(x, y) < 0 {
		return nil, Trim(x), api.OK
	}
	if len(y) == 1 {
		quotient := Trim(x)
		rest := divideShort(quotient, y[0])
		return core(quotient), Of(uint64(rest)), api.OK
	}
	quotient, rest := divideLong(x, y)
	return core(quotient), core(rest), api.OK
}

// divideShort divides a in its place and returns the remainder.
func divideShort(a Nat, by uint32) uint32 {
	rest := uint64(0)
	for i := range len(a) {
		k := len(a) - 1 - i
		rest = rest<<limbBits | uint64(a[k])
		a[k] = uint32(rest / uint64(by))
		rest %= uint64(by)
	}
	return uint32(rest)
}

// divideLong is Knuth's algorithm D: y has two limbs or more, x is at least y.
func divideLong(x, y Nat) (Nat, Nat) {
	shift := bits.LeadingZeros32(y[len(y)-1])
	divisor := shiftedUp(y, shift)[:len(y)]
	rest := shiftedUp(x, shift)
	quotient := make(Nat, len(x)-len(y)+1)
	for i := range len(quotient) {
		k := len(quotient) - 1 - i
		guess := guessed(rest[k:], divisor)
		if subtractTimes(rest[k:], divisor, guess) {
			guess--
			addBack(rest[k:], divisor)
		}
		quotient[k] = guess
	}
	shiftDown(rest, shift)
	return quotient, rest
}

// guessed is the next limb of a quotient, or that and one more.
func guessed(rest, divisor Nat) uint32 {
	n := len(divisor)
	top := uint64(rest[n])<<limbBits | uint64(rest[n-1])
	high, low := uint64(divisor[n-1]), uint64(divisor[n-2])
	guess, left := top/high, top%high
	for guess>>limbBits != 0 || guess*low > left<<limbBits|uint64(rest[n-2]) {
		guess--
		left += high
		if left>>limbBits != 0 {
			break
		}
	}
	return uint32(guess)
}

// subtractTimes takes divisor times by off rest; true: it went below 0.
func subtractTimes(rest, divisor Nat, by uint32) bool {
	carry, borrow := uint64(0), uint32(0)
	for i := range len(divisor) {
		carry += uint64(divisor[i]) * uint64(by)
		rest[i], borrow = bits.Sub32(rest[i], uint32(carry), borrow)
		carry >>= limbBits
	}
	n := len(divisor)
	rest[n], borrow = bits.Sub32(rest[n], uint32(carry), borrow)
	return borrow != 0
}

func addBack(rest, divisor Nat) {
	carry := uint32(0)
	for i := range len(divisor) {
		rest[i], carry = bits.Add32(rest[i], divisor[i], carry)
	}
	rest[len(divisor)] += carry
}

// shiftedUp is a shifted by less than a limb, with one limb more.
func shiftedUp(a Nat, n int) Nat {
	r := make(Nat, len(a)+1)
	carry := uint64(0)
	for i := range len(a) {
		carry |= uint64(a[i]) << n
		r[i] = uint32(carry)
		carry >>= limbBits
	}
	r[len(a)] = uint32(carry)
	return r
}

// shiftDown shifts a in its place by less than a limb.
func shiftDown(a Nat, n int) {
	for i := range len(a) {
		wide := uint64(a[i])
		if i+1 < len(a) {
			wide |= uint64(a[i+1]) << limbBits
		}
		a[i] = uint32(wide >> n)
	}
}

// Shl and Shr shift; Shr tells whether anything was left.
func Shl(a Nat, n int) (Nat, api.Errno) {
	if n < 0 {
		return nil, api.ErrArg
	}
	size := Len(a)
	if size == 0 {
		return nil, api.OK
	}
	// The first bound keeps the sum from running over the end of int.
	if n > api.MaxLimbs*limbBits || size+n > api.MaxLimbs*limbBits {
		return nil, api.ErrOver
	}
	moved := shiftedUp(core(a), n%limbBits)
	r := make(Nat, len(moved)+n/limbBits)
	copy(r[n/limbBits:], moved)
	return core(r), api.OK
}

func Shr(a Nat, n int) (Nat, bool, api.Errno) {
	if n < 0 {
		return nil, false, api.ErrArg
	}
	if !fits(a) {
		return nil, false, api.ErrOver
	}
	c := core(a)
	skip := n / limbBits
	if skip >= len(c) {
		return nil, len(c) > 0, api.OK
	}
	lost := c[skip]<<(limbBits-n%limbBits) != 0
	for i := range skip {
		lost = lost || c[i] != 0
	}
	r := Trim(c[skip:])
	shiftDown(r, n%limbBits)
	return core(r), lost, api.OK
}

func Pow(base, n int) (Nat, api.Errno) {
	if base < 0 || base > 1000000 || n < 0 {
		return nil, api.ErrArg
	}
	if n == 0 || base == 1 {
		return Of(1), api.OK
	}
	if base == 0 {
		return nil, api.OK
	}
	if n >= api.MaxLimbs*limbBits {
		return nil, api.ErrOver
	}
	power, by := Of(1), Of(uint64(base))
	err := api.OK
	// From the highest bit on, nothing on the way is greater than the result.
	for i := range bits.Len(uint(n)) {
		if power, err = Mul(power, power); err != api.OK {
			return nil, err
		}
		if n>>(bits.Len(uint(n))-1-i)&1 == 0 {
			continue
		}
		if power, err = Mul(power, by); err != api.OK {
			return nil, err
		}
	}
	return power, api.OK
}
