package whole

import (
	"math"
	"math/big"
	"math/rand"
	"testing"

	"tabard/api"
	"tabard/arith"
	"tabard/float"
)

func bitsOf(x float64) uint64 {
	if x != x {
		return api.NaN
	}
	return math.Float64bits(x)
}

func num(x uint64) float64 { return math.Float64frombits(x) }

// some is a list of numbers many of which lie near ints and halves.
func some() []uint64 {
	l := []uint64{0, 1, api.NegZero, api.NegZero + 1, api.Most, api.Inf, api.NegInf, api.NaN, 0xFFF0000000000001, 0x0010000000000000}
	for _, x := range []float64{0.3, 0.5, 1, 1.5, 2, 2.5, 3, 3.5, 1 << 51, 1<<51 + 0.5, 1 << 52, 1<<52 + 1, 1 << 53, 1<<53 + 2, 1 << 62, 1 << 63, 1 << 64, 1e300, 0x1p-9, 0x1p-10, 0x1p-62, 0x1p-63, 0x1p-1000} {
		b := bitsOf(x)
		for _, y := range []uint64{b, b - 1, b + 1} {
			l = append(l, y, y|api.NegZero)
		}
	}
	r := rand.New(rand.NewSource(1))
	for range 20000 {
		x := bitsOf(math.Ldexp(r.Float64()-0.5, r.Intn(80)-8))
		l = append(l, x, x&^(1<<r.Intn(53)-1), r.Uint64())
	}
	return l
}

var rules = []func(float64) float64{math.RoundToEven, math.Round, math.Trunc, func(x float64) float64 { return math.Copysign(math.Ceil(math.Abs(x)), x) }, math.Floor, math.Ceil}

func TestC1(t *testing.T) {
	l := some()
	for i, a := range l {
		b := l[(i*7+3)%len(l)]
		if i < 150 {
			b = l[i*5%30]
		}
		x, y := num(a), num(b)
		order, ok := Cmp(a, b)
		want := 0
		if x < y {
			want = -1
		} else if x > y {
			want = 1
		}
		if order != want || ok != (x == x && y == y) {
			t.Fatalf("%x %x: %d %v", a, b, order, ok)
		}
		if Min(a, b) != bitsOf(math.Min(x, y)) && x == x && y == y || Max(a, b) != bitsOf(math.Max(x, y)) && x == x && y == y {
			t.Fatalf("%x %x: %x %x", a, b, Min(a, b), Max(a, b))
		}
		if (x != x || y != y) && (Min(a, b) != api.NaN || Max(a, b) != api.NaN) {
			t.Fatalf("%x %x", a, b)
		}
		sign := 0
		if x > 0 {
			sign = 1
		} else if x < 0 {
			sign = -1
		}
		if Sign(a) != sign || Is(a) != (x == math.Trunc(x) && !math.IsInf(x, 0)) {
			t.Fatalf("%x: %d %v", a, Sign(a), Is(a))
		}
	}
	if Min(api.NegZero, 0) != api.NegZero || Min(0, api.NegZero) != api.NegZero || Max(api.NegZero, 0) != 0 || Max(api.NegZero, api.NegZero) != api.NegZero || Min(api.NaN, api.One) != api.NaN || Max(api.NegInf, bitsOf(3)) != bitsOf(3) {
		t.Error("zeros")
	}
	if order, ok := Cmp(api.NegZero, 0); order != 0 || !ok {
		t.Error(order, ok)
	}
}

func TestC2(t *testing.T) {
	for _, a := range some() {
		for way, f := range rules {
			if x, e := Whole(a, way); e != api.OK || x != bitsOf(f(num(a))) {
				t.Fatalf("%x %d: %x %d", a, way, x, e)
			}
		}
		for _, way := range []int{-1, 6, math.MaxInt, math.MinInt} {
			if x, e := Whole(a, way); e != api.ErrArg || x != 0 {
				t.Fatalf("%x %d: %x %d", a, way, x, e)
			}
		}
	}
}

func TestC3(t *testing.T) {
	r := rand.New(rand.NewSource(3))
	for _, v := range []int{0, 1, -1, math.MaxInt, math.MinInt, math.MinInt + 1, 1<<53 + 1, -1<<53 - 1, 1<<53 + 3, 1<<63 - 512, 1<<63 - 513} {
		for range 1000 {
			if x := From(v); x != bitsOf(float64(v)) {
				t.Fatalf("%d: %x", v, x)
			}
			v = int(r.Uint64()) >> r.Intn(64)
		}
	}
	for _, a := range some() {
		for way, f := range rules {
			v, e := To(a, way)
			want, _ := new(big.Int), 0
			switch x := f(num(a)); {
			case x != x || math.IsInf(x, 0):
				if e != api.ErrNumber || v != 0 {
					t.Fatalf("%x %d: %d %d", a, way, v, e)
				}
				continue
			default:
				big.NewFloat(x).Int(want)
			}
			if want.IsInt64() && (e != api.OK || int64(v) != want.Int64()) || !want.IsInt64() && (e != api.ErrRange || v != 0) {
				t.Fatalf("%x %d: %d %d", a, way, v, e)
			}
		}
		if v, e := To(a, 6); v != 0 || e != api.ErrArg {
			t.Fatalf("%x: %d %d", a, v, e)
		}
	}
}

func TestC4(t *testing.T) {
	l := some()
	for i, a := range l {
		b := l[(i*11+5)%len(l)]
		x, _ := Cmp(a, b)
		if y, _ := Cmp(b, a); x != -y {
			t.Fatalf("%x %x", a, b)
		}
		if float.Kind(a) >= float.Endless {
			continue
		}
		for way := range 6 {
			w, _ := Whole(a, way)
			for again := range 6 {
				if v, _ := Whole(w, again); v != w {
					t.Fatalf("%x %d %d", a, way, again)
				}
			}
			// A difference just below 1 may be rounded to 1.
			if d, _ := Cmp(float.Abs(arith.Sub(w, a)), api.One); d > 0 || d == 0 && float.Abs(a) > bitsOf(0x1p-50) {
				t.Fatalf("%x %d: %x", a, way, w)
			}
		}
		low, _ := Whole(a, api.Low)
		high, _ := Whole(a, api.High)
		opposite, _ := Whole(float.Neg(a), api.Low)
		under, _ := Cmp(low, a)
		over, _ := Cmp(high, a)
		if under > 0 || over < 0 || opposite != float.Neg(high) {
			t.Fatalf("%x", a)
		}
	}
	for _, v := range []int{0, 1, -1, 1<<53 - 1, 1 - 1<<53, 1 << 62, 12345} {
		if w, e := To(From(v), api.Even); w != v || e != api.OK {
			t.Error(v, w, e)
		}
	}
}
