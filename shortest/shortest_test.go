package shortest

import (
	"math"
	"math/big"
	"math/rand"
	"strconv"
	"strings"
	"testing"

	"tabard/api"
	"tabard/decimal"
	"tabard/exact"
	"tabard/float"
)

func bitsOf(x float64) uint64 { return math.Float64bits(x) }

func num(x uint64) float64 { return math.Float64frombits(x) }

func some(n int) []uint64 {
	l := []uint64{0, 1, 2, 3, 4, 5, 9, api.NegZero, api.NegZero + 1, api.Most, api.Most - 1, api.One, 0x0010000000000000, 0x000FFFFFFFFFFFFF, 0x0010000000000001, bitsOf(0.1), bitsOf(1e23), bitsOf(1 << 53), bitsOf(9007199254740993), bitsOf(2.2250738585072011e-308), bitsOf(1e22), bitsOf(5e-324), bitsOf(68719476736.015625)}
	for e := -1074; e < 1024; e += 3 {
		x := bitsOf(math.Ldexp(1, e))
		l = append(l, x, x-1, x+1)
	}
	r := rand.New(rand.NewSource(1))
	for range n {
		l = append(l, r.Uint64(), uint64(r.Intn(2000)), bitsOf(float64(r.Intn(1e6))/1000), bitsOf(math.Ldexp(float64(r.Intn(1<<40)), -r.Intn(60))), bitsOf(float64(r.Int63())))
	}
	return l
}

func rat(d api.Dec) *big.Rat {
	r, _ := new(big.Rat).SetString("0" + d.Digits + "e" + strconv.Itoa(d.Exp))
	return r
}

func TestH1(t *testing.T) {
	w := New()
	for _, x := range some(4000) {
		d, e := w.Dec(x)
		if float.Kind(x) >= float.Endless {
			if d != (api.Dec{}) || e != api.ErrNumber {
				t.Fatalf("%x: %v %d", x, d, e)
			}
			continue
		}
		s := strconv.FormatFloat(math.Abs(num(x)), 'e', -1, 64)
		want, _ := decimal.Parse(s)
		want.Neg = x>>63 == 1
		if e != api.OK || d != want && !equallyClose(x, d, want) {
			t.Fatalf("%x: %v %d, not %s", x, d, e, s)
		}
	}
	// The document's example says 17 digits, but sixteen are read as the same number, and the rule asks for the fewest.
	if d, _ := w.Dec(bitsOf(2.2250738585072011e-308)); decimal.Print(d) != "2.225073858507201e-308" || !w.says(d, bitsOf(2.2250738585072011e-308)) {
		t.Error(d)
	}
	if d, _ := w.Dec(bitsOf(2.2250738585072014e-308)); len(d.Digits) != 17 {
		t.Error(d)
	}
	if d, _ := w.Dec(bitsOf(68719476736.015625)); d.Digits != "6871947673601562" {
		t.Error("of two that are equally close, the even one", d)
	}
}

// equallyClose: the library may take the other one of two then; the document's has an even last digit.
func equallyClose(x uint64, d, other api.Dec) bool {
	v, _ := exact.Dec(x &^ api.NegZero)
	a := new(big.Rat).Sub(rat(v), rat(d))
	b := new(big.Rat).Sub(rat(v), rat(other))
	return d.Neg == other.Neg && len(d.Digits) == len(other.Digits) && a.Abs(a).Cmp(b.Abs(b)) == 0 && d.Digits[len(d.Digits)-1]%2 == 0
}

func TestH2(t *testing.T) {
	w := New()
	for _, c := range []struct {
		x    uint64
		want string
	}{{bitsOf(0.1), "0.1"}, {api.NegZero, "-0"}, {bitsOf(1e23), "1e+23"}, {1, "5e-324"}, {bitsOf(1 << 53), "9007199254740992"}, {api.Most, "1.7976931348623157e+308"}, {api.Inf, "inf"}, {api.NegInf, "-inf"}, {0xFFF0000000000001, "nan"}, {bitsOf(1e-7), "1e-7"}, {bitsOf(1e21), "1e+21"}, {bitsOf(-123456), "-123456"}} {
		if s := w.Print(c.x); s != c.want {
			t.Error(c.want, s)
		}
		if x, e := w.Parse(c.want); x != float.Right(c.x) || e != api.OK {
			t.Errorf("%s: %x %d", c.want, x, e)
		}
	}
	for _, s := range []string{"0.10", "1e23", "1.0", "01", "NaN", "+inf", "", "0.1 ", "1E+23", "0.1000000000000000055511151231257827", "1e400", "-", "9007199254740993", ".5", "1e-400"} {
		if x, e := w.Parse(s); x != 0 || e != api.ErrForm {
			t.Errorf("%s: %x %d", s, x, e)
		}
	}
	for _, s := range []string{"1e100001", strings.Repeat("1", 1101)} {
		if x, e := w.Parse(s); x != 0 || e != api.ErrOver {
			t.Errorf("%s: %x %d", s, x, e)
		}
	}
}

func TestH3(t *testing.T) {
	w := New()
	for _, x := range some(500) {
		want, wantE := exact.Sig(x, 15, api.Away)
		if d, e := w.Fifteen(x); d != want || e != wantE {
			t.Fatalf("%x: %v %d", x, d, e)
		}
	}
	for _, c := range []struct {
		x    float64
		want string
	}{{123456789012345.5, "123456789012346"}, {-123456789012345.5, "-123456789012346"}, {0.1 + 0.2, "0.3"}, {1.0 / 3, "0.333333333333333"}, {1 << 60, "1152921504606850000"}, {math.Copysign(0, -1), "-0"}} {
		if d, e := w.Fifteen(bitsOf(c.x)); decimal.Print(d) != c.want || e != api.OK {
			t.Error(c, d, e)
		}
	}
	if d, e := w.Fifteen(api.NaN); d != (api.Dec{}) || e != api.ErrNumber {
		t.Error(d, e)
	}
}

func TestH4(t *testing.T) {
	w, other := New(), New()
	r := rand.New(rand.NewSource(4))
	for _, x := range some(1000) {
		s := w.Print(x)
		if y, e := other.Parse(s); y != float.Right(x) || e != api.OK {
			t.Fatalf("%x: %s %x %d", x, s, y, e)
		}
		d, _ := w.Dec(x)
		if len(d.Digits) > 17 {
			t.Fatalf("%x: %v", x, d)
		}
		short, _ := decimal.Make(r.Intn(2) == 0, strconv.Itoa(r.Intn(1e15)), r.Intn(590)-306)
		y, _ := w.Bits(short)
		if back, e := w.Fifteen(y); float.Kind(y) < float.Endless && (back != short || e != api.OK) {
			t.Fatal(short, back, e)
		}
	}
	if v := least(3, 9, func(n int) (int, bool) { return n, n >= 7 }); v != 7 {
		t.Error(v)
	}
}
