package exact

import (
	"math"
	"math/big"
	"math/rand"
	"strconv"
	"strings"
	"testing"

	"tabard/api"
	"tabard/decimal"
	"tabard/float"
)

func bitsOf(x float64) uint64 { return math.Float64bits(x) }

func num(x uint64) float64 { return math.Float64frombits(x) }

func rat(d api.Dec) *big.Rat {
	r, _ := new(big.Rat).SetString("0" + d.Digits + "e" + strconv.Itoa(d.Exp))
	if d.Neg {
		r.Neg(r)
	}
	return r
}

func dec(s string) api.Dec {
	d, e := decimal.Parse(s)
	if e != api.OK {
		panic(s)
	}
	return d
}

func some() []uint64 {
	l := []uint64{0, 1, 3, api.NegZero, api.NegZero + 1, api.Most, api.One, 0x0010000000000000, 0x000FFFFFFFFFFFFF, bitsOf(0.1), bitsOf(2.675), bitsOf(-1.5), bitsOf(1 << 53), bitsOf(1e22)}
	r := rand.New(rand.NewSource(1))
	for range 2000 {
		x := r.Uint64()
		if float.Kind(x) < float.Endless {
			l = append(l, x)
		}
		l = append(l, bitsOf(math.Ldexp(r.Float64()-0.5, r.Intn(80)-20)))
	}
	return l
}

var endless = []uint64{api.Inf, api.NegInf, api.NaN, 0xFFF0000000000001}

func TestX1(t *testing.T) {
	for _, x := range some() {
		d, e := Dec(x)
		if e != api.OK || !decimal.Right(d) || rat(d).Cmp(new(big.Rat).SetFloat64(num(x))) != 0 || d.Neg != (x>>63 == 1) {
			t.Fatalf("%x: %v %d", x, d, e)
		}
		for _, n := range []int{-5, 0, 1, 3, 15, 17, 400} {
			for way := -1; way <= 6; way++ {
				wantSig, wantE := decimal.Sig(d, n, way)
				if got, e := Sig(x, n, way); got != wantSig || e != wantE {
					t.Fatalf("%x %d %d: %v %d", x, n, way, got, e)
				}
				wantPlace, wantE := decimal.Place(d, n, way)
				if got, e := Place(x, n, way); got != wantPlace || e != wantE {
					t.Fatalf("%x %d %d: %v %d", x, n, way, got, e)
				}
			}
		}
	}
	for _, x := range endless {
		d, e := Dec(x)
		s, eS := Sig(x, 0, 9)
		p, eP := Place(x, 1<<40, 9)
		if e != api.ErrNumber || eS != e || eP != e || d != s || s != p || d != (api.Dec{}) {
			t.Errorf("%x: %d %d %d", x, e, eS, eP)
		}
	}
	if d, _ := Dec(bitsOf(0.1)); d != dec("0.1000000000000000055511151231257827021181583404541015625") {
		t.Error(d)
	}
	if d, e := Sig(1, 0, 0); d != (api.Dec{}) || e != api.ErrArg {
		t.Error(d, e)
	}
	if d, _ := Sig(bitsOf(0.1), 3, api.Up); d != dec("0.101") {
		t.Error(d)
	}
	if d, _ := Place(bitsOf(2.675), 2, api.Even); d != dec("2.67") {
		t.Error(d)
	}
}

func TestX2(t *testing.T) {
	for _, x := range some() {
		next := new(big.Rat).SetInt(new(big.Int).Lsh(big.NewInt(1), 1024))
		if float.Abs(x) != api.Most {
			next.SetFloat64(num(float.Abs(x) + 1))
		}
		want := next.Add(next, new(big.Rat).SetFloat64(num(float.Abs(x))))
		want.Quo(want, big.NewRat(2, 1))
		d, e := Mid(x)
		size := d
		size.Neg = false
		if e != api.OK || rat(size).Cmp(want) != 0 || d.Neg != (x>>63 == 1) {
			t.Fatalf("%x: %v %d", x, d, e)
		}
	}
	for _, x := range endless {
		if d, e := Mid(x); d != (api.Dec{}) || e != api.ErrNumber {
			t.Errorf("%x: %v %d", x, d, e)
		}
	}
	if d, _ := Mid(bitsOf(1 << 53)); d != dec("9007199254740993") {
		t.Error(d)
	}
}

// tried goes through all denominators.
func tried(f *big.Rat, most int) (int, int) {
	bestP, bestQ := 0, 1
	best := new(big.Rat).Set(f)
	for q := 1; q <= most; q++ {
		whole := new(big.Rat).Mul(f, big.NewRat(int64(q), 1))
		p := int(new(big.Int).Div(whole.Num(), whole.Denom()).Int64())
		for _, n := range []int{p, p + 1} {
			d := new(big.Rat).Sub(f, big.NewRat(int64(n), int64(q)))
			if d.Abs(d).Cmp(best) < 0 {
				best, bestP, bestQ = d, n, q
			}
		}
	}
	return bestP, bestQ
}

func TestX3(t *testing.T) {
	l := []float64{0, 1, 0.5, 0.25, 3.25, 0.97, 0.3333, math.Pi, 0x1p-14, 0x1p-15, 0x1p-16, 0x1p-1074, 0x1.8p-14, 1e-5, 1 - 0x1p-53, 1 - 0x1p-14, 5e-5, 0.00005001, 1e300, 1 << 53, 0.125, 0.0625, 7.0 / 16, 4503599627370495.5, 1.0 / 9000, 1 / 8999.7, 1 / 8192.3, 0.00012345, 0.000099995, 1.5 / 9999, 0.75, 1.0 / 198, 1.0 / 18}
	r := rand.New(rand.NewSource(3))
	for range 300 {
		l = append(l, r.Float64(), float64(r.Intn(2000))/float64(r.Intn(2000)+1), math.Ldexp(float64(r.Intn(64)), -r.Intn(8)))
	}
	for i, x := range l {
		for _, most := range []int{1, 2, 9, 99, 9999} {
			if most == 9999 && i > 60 {
				continue
			}
			whole := math.Floor(x)
			p, q := tried(new(big.Rat).Sub(new(big.Rat).SetFloat64(x), new(big.Rat).SetFloat64(whole)), most)
			if p == 1 && q == 1 {
				p, whole = 0, whole+1
			}
			for _, sign := range []float64{1, -1} {
				f, e := Ratio(bitsOf(math.Copysign(x, sign)), most)
				want, _ := Dec(bitsOf(math.Copysign(whole, sign)))
				if e != api.OK || f != (Fraction{want, p, q}) {
					t.Fatalf("%v %d: %v, not %v %d/%d", x, most, f, want, p, q)
				}
			}
		}
	}
	if f, e := Ratio(bitsOf(-0.3333), 9); e != api.OK || f != (Fraction{api.Dec{Neg: true}, 1, 3}) {
		t.Error(f, e)
	}
	for _, most := range []int{0, -1, 10000, math.MaxInt, math.MinInt} {
		if f, e := Ratio(api.One, most); f != (Fraction{}) || e != api.ErrArg {
			t.Error(most, f, e)
		}
		for _, x := range endless {
			if f, e := Ratio(x, most); f != (Fraction{}) || e != api.ErrNumber {
				t.Error(most, f, e)
			}
		}
	}
}

func TestX4(t *testing.T) {
	if d, _ := Dec(0x000FFFFFFFFFFFFF); len(d.Digits) != 767 {
		t.Error(len(d.Digits))
	}
	for _, x := range some() {
		if d, _ := Dec(x); len(d.Digits) > 767 || strings.HasSuffix(d.Digits, "0") {
			t.Fatalf("%x", x)
		}
		f, _ := Ratio(x, 99)
		if new(big.Int).GCD(nil, nil, big.NewInt(int64(f.Num)), big.NewInt(int64(f.Den))).Int64() != 1 {
			t.Fatalf("%x: %v", x, f)
		}
	}
	for q := 1; q <= 64; q *= 2 {
		for p := range q {
			f, _ := Ratio(bitsOf(float64(p)/float64(q)), 99)
			if float64(f.Num)/float64(f.Den) != float64(p)/float64(q) {
				t.Error(p, q, f)
			}
		}
	}
}
