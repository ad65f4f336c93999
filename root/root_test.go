package root

import (
	"math"
	"math/bits"
	"math/rand"
	"testing"

	"tabard/api"
	"tabard/arith"
	"tabard/float"
)

func bitsOf(x float64) uint64 {
	if x != x {
		return api.NaN
	}
	return math.Float64bits(x)
}

func num(x uint64) float64 { return math.Float64frombits(x) }

var edges = []uint64{0, 1, 2, 3, api.NegZero, api.NegZero + 1, 0x000FFFFFFFFFFFFF, 0x0010000000000000, 0x001FFFFFFFFFFFFF, api.One, api.One + 1, api.One - 1, bitsOf(-1), 0x3CA0000000000001, 0xBC90000000000001, api.Most, 0xFFEFFFFFFFFFFFFF, 0x7FE0000000000000, api.Inf, api.NegInf, api.NaN, 0xFFF0000000000001, bitsOf(0.1), bitsOf(3), bitsOf(-7), bitsOf(10), bitsOf(1e300), bitsOf(1e-300)}

func pair(r *rand.Rand) (uint64, uint64) {
	a, b := r.Uint64(), r.Uint64()
	if r.Intn(3) > 0 {
		b = b&^(0x7FF<<52) | (a>>52+uint64(r.Intn(160))-80)&0x7FF<<52
	}
	if r.Intn(4) == 0 {
		a &^= 1<<r.Intn(53) - 1
		b &^= 1<<r.Intn(53) - 1
	}
	return a, b
}

func each(n int, f func(a, b uint64)) {
	for _, a := range edges {
		for _, b := range edges {
			f(a, b)
		}
	}
	r := rand.New(rand.NewSource(1))
	for range n {
		f(pair(r))
	}
}

func TestQ1(t *testing.T) {
	each(300000, func(a, b uint64) {
		if x := Div(a, b); x != bitsOf(num(a)/num(b)) {
			t.Fatalf("%x / %x: %x", a, b, x)
		}
	})
	if Div(api.One, bitsOf(3)) != 0x3FD5555555555555 || Div(api.One, api.NegZero) != api.NegInf || Div(0, 0) != api.NaN || Div(bitsOf(-1), api.Inf) != api.NegZero || Div(1, bitsOf(2)) != 0 {
		t.Error("examples")
	}
}

func TestQ2(t *testing.T) {
	each(100000, func(a, _ uint64) {
		if x := Sqrt(a); x != bitsOf(math.Sqrt(num(a))) {
			t.Fatalf("%x: %x", a, x)
		}
		if x := Sqrt(a &^ api.NegZero); x != bitsOf(math.Sqrt(math.Abs(num(a)))) {
			t.Fatalf("%x: %x", a, x)
		}
	})
	if Sqrt(bitsOf(2)) != 0x3FF6A09E667F3BCD || Sqrt(bitsOf(-1)) != api.NaN || Sqrt(api.NegZero) != api.NegZero || Sqrt(1) != 0x1E60000000000000 || Sqrt(api.NegInf) != api.NaN {
		t.Error("examples")
	}
}

func TestQ3(t *testing.T) {
	r := rand.New(rand.NewSource(3))
	each(100000, func(a, b uint64) {
		near := arith.Mul(a, b)
		for _, c := range []uint64{edges[r.Intn(len(edges))], r.Uint64(), float.Neg(near), near ^ 1, near ^ 1<<63 ^ uint64(r.Intn(1<<20))<<45} {
			if x := Fma(a, b, c); x != bitsOf(math.FMA(num(a), num(b), num(c))) {
				t.Fatalf("%x * %x + %x: %x", a, b, c, x)
			}
		}
	})
	if Fma(bitsOf(0.1), bitsOf(10), bitsOf(-1)) != 0x3C90000000000000 || Fma(api.Inf, 0, api.One) != api.NaN || Fma(api.One, api.NegZero, 0) != 0 || Fma(api.One, api.NegZero, api.NegZero) != api.NegZero || Fma(api.One, api.One, bitsOf(-1)) != 0 {
		t.Error("examples")
	}
}

func TestQ4(t *testing.T) {
	each(50000, func(a, b uint64) {
		want := bitsOf(math.Mod(num(a), num(b)))
		if float.Kind(a) == float.Zero && float.Kind(b) != float.Zero && float.Kind(b) != float.None {
			want = a
		}
		if x := Mod(a, b); x != want {
			t.Fatalf("%x %% %x: %x, not %x", a, b, x, want)
		}
	})
	for _, c := range []struct{ a, b, want float64 }{{7, 3, 1}, {-7, 3, -1}, {1e300, 7, 1}, {5, math.Inf(1), 5}, {-6, 3, math.Copysign(0, -1)}, {6, -4, 2}} {
		if x := Mod(bitsOf(c.a), bitsOf(c.b)); x != bitsOf(c.want) {
			t.Error(c, num(x))
		}
	}
	if Mod(api.One, 0) != api.NaN || Mod(api.Inf, api.One) != api.NaN {
		t.Error("no number")
	}
}

// power follows the rule in the language's own floats.
func power(a float64, n int) float64 {
	if n < 0 {
		if n == math.MinInt {
			p := power(a, 1<<62)
			return 1 / (p * p)
		}
		return 1 / power(a, -n)
	}
	p := 1.0
	for i := bits.Len(uint(n)) - 1; i >= 0; i-- {
		p *= p
		if n>>i&1 == 1 {
			p *= a
		}
	}
	return p
}

func TestQ5(t *testing.T) {
	r := rand.New(rand.NewSource(5))
	for _, a := range edges {
		for _, n := range []int{0, 1, -1, 2, 3, -3, 10, 23, 1000, -1000, math.MaxInt, math.MinInt, math.MinInt + 1} {
			want := bitsOf(power(num(a), n))
			if float.Kind(a) == float.None {
				want = api.NaN
			}
			if x := Power(a, n); x != want {
				t.Errorf("%x ^ %d: %x, not %x", a, n, x, want)
			}
		}
	}
	for range 20000 {
		a, n := bitsOf((r.Float64()-0.5)*math.Ldexp(1, r.Intn(20))), r.Intn(400)-200
		if x := Power(a, n); x != bitsOf(power(num(a), n)) {
			t.Fatalf("%x ^ %d: %x", a, n, x)
		}
	}
	if Power(bitsOf(2), 10) != bitsOf(1024) || Power(bitsOf(2), -1074) != 0 || Power(0, 0) != api.One || Power(bitsOf(10), 23) != 0x44B52D02C7E14AF6 || Power(0x7FF0000000000001, 0) != api.NaN {
		t.Error("examples")
	}
}

func TestQ6(t *testing.T) {
	each(50000, func(a, b uint64) {
		if float.Kind(a) >= float.Endless || float.Kind(b) >= float.Endless {
			return
		}
		if Div(a, api.One) != a || float.Kind(a) != float.Zero && Div(a, a) != api.One {
			t.Fatalf("%x", a)
		}
		if m := Mod(a, b); float.Kind(b) != float.Zero && (float.Abs(m) >= float.Abs(b) || (m^a)&api.NegZero != 0) {
			t.Fatalf("%x %% %x: %x", a, b, m)
		}
		if x := a &^ (1<<27 - 1); float.Kind(Fma(x, x, float.Neg(arith.Mul(x, x)))) == float.Zero && float.Kind(arith.Mul(x, x)) == float.Normal && Sqrt(arith.Mul(x, x)) != float.Abs(x) {
			t.Fatalf("%x", x)
		}
		if Fma(a, api.One, b) != arith.Add(a, b) || Fma(a, b, api.NegZero) != arith.Mul(a, b) {
			t.Fatalf("%x %x", a, b)
		}
	})
}
