package funcs

import (
	"slices"

	"tabard/api"
	"tabard/arith"
	"tabard/exact"
	"tabard/root"
	"tabard/value"
	"tabard/whole"
)

const (
	two       = 0x4000000000000000
	pi        = 0x400921FB54442D18
	mostWhole = 1 << 53 // of GCD and LCM
	mostFact  = 170
	mostRound = 400
)

func isZero(x uint64) bool { return x&^api.NegZero == 0 }

func isNegative(x uint64) bool { return x&api.NegZero != 0 }

// rounded is a number as an integer; the ways are those of api.
func rounded(x uint64, way int) uint64 {
	w, _ := whole.Whole(x, way)
	return w
}

func (k *call) ofNumbers(name string) api.Value {
	if name == "LARGE" || name == "SMALL" {
		return k.nth(name)
	}
	l := k.numbersOf(k.args)
	switch name {
	case "SUM":
		return value.Number(arith.Sum(l))
	case "PRODUCT":
		return value.Number(product(l))
	case "SUMSQ":
		return value.Number(arith.Sum(squares(l)))
	case "AVERAGE":
		if len(l) == 0 {
			return value.Fail(api.FailDiv)
		}
		return value.Number(root.Div(arith.Sum(l), whole.From(len(l))))
	case "MIN":
		return value.Number(extreme(l, whole.Min))
	case "MAX":
		return value.Number(extreme(l, whole.Max))
	case "MEDIAN":
		return median(l)
	case "GCD":
		return overInts(l, divisor)
	}
	return overInts(l, multiple)
}

func product(l []uint64) uint64 {
	if len(l) == 0 {
		return 0
	}
	p := uint64(api.One)
	for _, x := range l {
		p = arith.Mul(p, x)
	}
	return p
}

func squares(l []uint64) []uint64 {
	r := []uint64{}
	for _, x := range l {
		r = append(r, arith.Mul(x, x))
	}
	return r
}

func extreme(l []uint64, choose func(a, b uint64) uint64) uint64 {
	if len(l) == 0 {
		return 0
	}
	best := l[0]
	for _, x := range l {
		best = choose(best, x)
	}
	return best
}

func sort(l []uint64) {
	slices.SortStableFunc(l, func(a, b uint64) int {
		order, _ := whole.Cmp(a, b)
		return order
	})
}

func median(l []uint64) api.Value {
	n := len(l)
	if n == 0 {
		return value.Fail(api.FailNum)
	}
	sort(l)
	if n%2 == 1 {
		return value.Number(l[n/2])
	}
	return value.Number(root.Div(arith.Add(l[n/2-1], l[n/2]), two))
}

// nth counts from the end, or from the beginning.
func (k *call) nth(name string) api.Value {
	l := k.numbersOf(k.args[:1])
	n := k.int(1)
	if n < 1 || n > len(l) {
		return value.Fail(api.FailNum)
	}
	sort(l)
	if name == "LARGE" {
		return value.Number(l[len(l)-n])
	}
	return value.Number(l[n-1])
}

// overInts joins the numbers, as ints, one after the other; none of them makes 0.
func overInts(l []uint64, join func(a, b int) (int, bool)) api.Value {
	ints := []int{}
	for _, x := range l {
		n, err := whole.To(x, api.Down)
		if err != api.OK || n < 0 || n > mostWhole {
			return value.Fail(api.FailNum)
		}
		ints = append(ints, n)
	}
	if len(ints) == 0 {
		return value.Number(0)
	}
	// First of all, for a multiple: with a 0, none is too great.
	slices.Sort(ints)
	all := ints[0]
	for _, n := range ints {
		next, ok := join(all, n)
		if !ok {
			return value.Fail(api.FailNum)
		}
		all = next
	}
	return value.Number(whole.From(all))
}

func divisor(a, b int) (int, bool) {
	for b != 0 {
		a, b = b, a%b
	}
	return a, true
}

func multiple(a, b int) (int, bool) {
	if a == 0 || b == 0 {
		return 0, true
	}
	common, _ := divisor(a, b)
	if a/common > mostWhole/b {
		return 0, false
	}
	return a / common * b, true
}

func (k *call) ofOne(name string) api.Value {
	switch name {
	case "PI":
		return value.Number(pi)
	case "FACT":
		return factorial(k.int(0))
	case "POWER":
		x, y := k.number(0), k.number(1)
		return k.c.ops.Binary("^", value.Number(x), value.Number(y))
	}
	x := k.number(0)
	switch name {
	case "ABS":
		x &^= api.NegZero
	case "SIGN":
		x = whole.From(whole.Sign(x))
	case "INT":
		x = rounded(x, api.Low)
	case "SQRT":
		x = root.Sqrt(x)
	case "EVEN":
		x = arith.Mul(two, rounded(root.Div(x, two), api.Up))
	case "ODD":
		x = odd(x)
	}
	return value.Number(x)
}

func odd(x uint64) uint64 {
	if isZero(x) {
		return api.One
	}
	halves := rounded(root.Div(arith.Add(api.One, x&^api.NegZero), two), api.Up)
	return arith.Sub(arith.Mul(two, halves), api.One) | x&api.NegZero
}

func factorial(n int) api.Value {
	if n < 0 || n > mostFact {
		return value.Fail(api.FailNum)
	}
	p := uint64(api.One)
	for i := range n {
		p = arith.Mul(p, whole.From(i+1))
	}
	return value.Number(p)
}

func (k *call) ofTwo(name string) api.Value {
	x := k.number(0)
	switch name {
	case "TRUNC", "ROUNDDOWN":
		return k.places(x, k.intOr(1, 0), api.Down)
	case "ROUND":
		return k.places(x, k.int(1), api.Away)
	case "ROUNDUP":
		return k.places(x, k.int(1), api.Up)
	case "CEILING":
		return stepped(x, k.numberOr(1, api.One), api.High)
	case "FLOOR":
		return stepped(x, k.numberOr(1, api.One), api.Low)
	}
	y := k.number(1)
	if isZero(y) {
		return value.Fail(api.FailDiv)
	}
	if name == "QUOTIENT" {
		return value.Number(rounded(root.Div(x, y), api.Down))
	}
	rest := root.Mod(x, y)
	if !isZero(rest) && isNegative(rest) != isNegative(y) {
		rest = arith.Add(rest, y)
	}
	return value.Number(rest)
}

// places rounds a number's exact value to n places.
func (k *call) places(x uint64, n, way int) api.Value {
	d, _ := exact.Place(x, max(-mostRound, min(n, mostRound)), way)
	bits, _ := k.c.numbers.Bits(d)
	return value.Number(bits)
}

// stepped is a multiple of y.
func stepped(x, y uint64, way int) api.Value {
	if isZero(y) {
		return value.Number(0)
	}
	return value.Number(arith.Mul(y, rounded(root.Div(x, y), way)))
}
