package arith

import (
	"math"
	"math/rand"
	"slices"
	"testing"

	"tabard/api"
	"tabard/float"
)

func bitsOf(x float64) uint64 {
	if x != x {
		return api.NaN
	}
	return math.Float64bits(x)
}

func num(x uint64) float64 { return math.Float64frombits(x) }

var edges = []uint64{0, 1, 2, 3, api.NegZero, api.NegZero + 1, api.NegZero + 5, 0x000FFFFFFFFFFFFF, 0x0010000000000000, 0x0010000000000001, 0x001FFFFFFFFFFFFF, api.One, api.One + 1, api.One - 1, bitsOf(-1), 0x3CA0000000000000, 0x3CA0000000000001, 0x3C90000000000000, 0xBCA0000000000000, 0xBC90000000000001, api.Most, api.Most - 1, 0xFFEFFFFFFFFFFFFF, 0x7FE0000000000000, 0x7C90000000000000, 0x7C80000000000000, api.Inf, api.NegInf, api.NaN, 0x7FF0000000000001, 0xFFFFFFFFFFFFFFFF, bitsOf(0.1), bitsOf(3), bitsOf(0.5), bitsOf(0.75), bitsOf(1 << 53)}

// pair is two numbers whose exponents are often close to each other.
func pair(r *rand.Rand) (uint64, uint64) {
	a, b := r.Uint64(), r.Uint64()
	if r.Intn(3) > 0 {
		b = b&^(0x7FF<<52) | (a>>52+uint64(r.Intn(160))-80)&0x7FF<<52
	}
	if r.Intn(4) == 0 {
		a &^= 1<<r.Intn(53) - 1
		b &^= 1<<r.Intn(53) - 1
	}
	return a, b
}

func each(f func(a, b uint64)) {
	for _, a := range edges {
		for _, b := range edges {
			f(a, b)
		}
	}
	r := rand.New(rand.NewSource(1))
	for range 300000 {
		f(pair(r))
	}
}

func TestS1(t *testing.T) {
	each(func(a, b uint64) {
		if x := Add(a, b); x != bitsOf(num(a)+num(b)) {
			t.Fatalf("%x + %x: %x", a, b, x)
		}
		if x := Sub(a, b); x != bitsOf(num(a)-num(b)) {
			t.Fatalf("%x - %x: %x", a, b, x)
		}
	})
	if Add(api.NegZero, api.NegZero) != api.NegZero || Add(api.NegZero, 0) != 0 || Add(api.One, bitsOf(-1)) != 0 || Add(api.Inf, api.NegInf) != api.NaN || Sub(api.Inf, 0xFFF0000000000001) != api.NaN {
		t.Error("signs and kinds")
	}
}

func TestS2(t *testing.T) {
	each(func(a, b uint64) {
		if x := Mul(a, b); x != bitsOf(num(a)*num(b)) {
			t.Fatalf("%x * %x: %x", a, b, x)
		}
	})
	if Mul(bitsOf(0.1), bitsOf(3)) != 0x3FD3333333333334 || Mul(api.Inf, 0) != api.NaN || Mul(api.NegZero, bitsOf(5)) != api.NegZero || Mul(1, bitsOf(0.5)) != 0 || Mul(1, bitsOf(0.75)) != 1 {
		t.Error("examples")
	}
}

func TestS3(t *testing.T) {
	for _, c := range []struct {
		l    []uint64
		want uint64
	}{
		{nil, 0}, {[]uint64{}, 0}, {[]uint64{api.NegZero}, 0}, {[]uint64{bitsOf(1 << 53), api.One, api.One}, bitsOf(1 << 53)},
		{[]uint64{api.One, api.One, bitsOf(1 << 53)}, bitsOf(1<<53 + 2)}, {[]uint64{api.Inf, api.NegInf, api.One}, api.NaN}, {[]uint64{0xFFF0000000000001}, api.NaN},
	} {
		before := slices.Clone(c.l)
		if x := Sum(c.l); x != c.want || !slices.Equal(before, c.l) {
			t.Errorf("%x: %x", c.l, x)
		}
	}
}

func TestS4(t *testing.T) {
	two := bitsOf(2)
	each(func(a, b uint64) {
		if Add(a, b) != Add(b, a) || Mul(a, b) != Mul(b, a) || float.Neg(Mul(a, b)) != Mul(float.Neg(a), b) {
			t.Fatalf("%x %x", a, b)
		}
		if float.Kind(a) < float.Endless && (Add(a, float.Neg(a)) != 0 || Mul(a, api.One) != a || Add(a, a) != Mul(a, two)) {
			t.Fatalf("%x", a)
		}
	})
	r := rand.New(rand.NewSource(4))
	for range 50000 {
		a, b := pair(r)
		c := r.Uint64()
		if x, y := num(Add(a, c)), num(Add(b, c)); num(a) <= num(b) && x > y {
			t.Fatalf("%x %x %x", a, b, c)
		}
	}
}
