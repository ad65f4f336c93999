package decimal

import (
	"math"
	"math/big"
	"math/rand"
	"strconv"
	"strings"
	"testing"

	"tabard/api"
)

func dec(s string) api.Dec {
	d, e := Parse(s)
	if e != api.OK {
		panic(s)
	}
	return d
}

func rat(d api.Dec) *big.Rat {
	r, ok := new(big.Rat).SetString("0" + d.Digits + "e" + strconv.Itoa(d.Exp))
	if !ok {
		panic(d)
	}
	if d.Neg {
		r.Neg(r)
	}
	return r
}

func some(r *rand.Rand) api.Dec {
	n := r.Intn(12)
	b := make([]byte, n)
	for i := range b {
		b[i] = "0123456789909905"[r.Intn(16)]
	}
	d, _ := Make(r.Intn(2) == 0, string(b), r.Intn(20)-12)
	return d
}

func TestD1(t *testing.T) {
	long := strings.Repeat("1", api.MaxDigits)
	for i, c := range []struct {
		d     api.Dec
		right bool
		point int
	}{
		{api.Dec{}, true, 0}, {api.Dec{Neg: true}, true, 0}, {api.Dec{Exp: 1}, false, 0}, {api.Dec{Digits: "10"}, false, 0}, {api.Dec{Digits: "01"}, false, 0}, {api.Dec{Digits: "0"}, false, 0},
		{api.Dec{Digits: "1x1"}, false, 0}, {api.Dec{Digits: "12345", Exp: -2}, true, 3}, {api.Dec{Digits: "1", Exp: 100000}, true, 100001}, {api.Dec{Digits: "1", Exp: 100001}, false, 0}, {api.Dec{Digits: "1", Exp: -100000}, true, -99999}, {api.Dec{Digits: "1", Exp: -100001}, false, 0},
		{api.Dec{Digits: long}, true, 1100}, {api.Dec{Digits: long + "1"}, false, 0}, {api.Dec{Digits: "1٣1"}, false, 0},
	} {
		if Right(c.d) != c.right || Point(c.d) != c.point {
			t.Error(i, Right(c.d), Point(c.d))
		}
	}
	r := rand.New(rand.NewSource(1))
	for range 20000 {
		a, b := some(r), some(r)
		if Cmp(a, b) != rat(a).Cmp(rat(b)) {
			t.Fatal(a, b, Cmp(a, b))
		}
	}
	for _, c := range []struct {
		a, b api.Dec
		want int
	}{{dec("0.9"), dec("0.95"), -1}, {dec("-0"), dec("0"), 0}, {dec("0"), dec("-0"), 0}, {api.Dec{Digits: "10"}, dec("5"), 0}, {dec("5"), api.Dec{Exp: 2}, 0}, {dec("1e100000"), dec("9e99999"), 1}, {dec("-1"), dec("0"), -1}} {
		if x := Cmp(c.a, c.b); x != c.want {
			t.Error(c, x)
		}
	}
}

func TestD2(t *testing.T) {
	long := strings.Repeat("1", 1100)
	for i, c := range []struct {
		neg    bool
		digits string
		exp    int
		want   api.Dec
		e      api.Errno
	}{
		{false, "00120", 3, api.Dec{Digits: "12", Exp: 4}, 0}, {true, "000", 7, api.Dec{Neg: true}, 0}, {true, "", math.MinInt, api.Dec{Neg: true}, 0}, {false, "0", math.MaxInt, api.Dec{}, 0},
		{false, "1x", 0, api.Dec{}, api.ErrForm}, {false, "x", 100001, api.Dec{}, api.ErrForm}, {false, "-1", 0, api.Dec{}, api.ErrForm}, {false, "1", 100001, api.Dec{}, api.ErrOver}, {false, "10", 100000, api.Dec{}, api.ErrOver}, {false, "1", 100000, api.Dec{Digits: "1", Exp: 100000}, 0},
		{false, "1", -100001, api.Dec{}, api.ErrOver}, {false, "10", -100001, api.Dec{Digits: "1", Exp: -100000}, 0}, {false, "1", math.MaxInt, api.Dec{}, api.ErrOver}, {false, "1000", math.MaxInt, api.Dec{}, api.ErrOver}, {false, "1000", math.MinInt, api.Dec{}, api.ErrOver},
		{false, "00" + long + "00", -2, api.Dec{Digits: long}, 0}, {false, long + "1", 0, api.Dec{}, api.ErrOver}, {true, "1" + strings.Repeat("0", 100005), -100005, api.Dec{Neg: true, Digits: "1"}, 0},
	} {
		if d, e := Make(c.neg, c.digits, c.exp); d != c.want || e != c.e {
			t.Error(i, d, e)
		}
	}
}

// quotient rounds x / 10^exp to an int.
func quotient(x *big.Rat, exp, way int) *big.Int {
	scale, _ := new(big.Rat).SetString("1e" + strconv.Itoa(-exp))
	q := new(big.Rat).Mul(x, scale)
	low := new(big.Int).Div(q.Num(), q.Denom())
	if q.IsInt() {
		return low
	}
	high := new(big.Int).Add(low, big.NewInt(1))
	half := new(big.Rat).Sub(q, new(big.Rat).SetInt(low)).Cmp(big.NewRat(1, 2))
	neg := x.Sign() < 0
	up := false
	switch way {
	case api.Even:
		up = half > 0 || half == 0 && low.Bit(0) == 1
	case api.Away:
		up = half > 0 || half == 0 && !neg
	case api.Down:
		up = neg
	case api.Up:
		up = !neg
	case api.High:
		up = true
	}
	if up {
		return high
	}
	return low
}

func checkRounded(t *testing.T, d, got api.Dec, exp, way int) {
	q := quotient(rat(d), exp, way)
	scale, _ := new(big.Rat).SetString("1e" + strconv.Itoa(exp))
	want := new(big.Rat).Mul(new(big.Rat).SetInt(q), scale)
	if !Right(got) || got.Neg != d.Neg || rat(got).Cmp(want) != 0 {
		t.Fatal(d, exp, way, got)
	}
}

func TestD3(t *testing.T) {
	r := rand.New(rand.NewSource(3))
	for range 20000 {
		d, way, n := some(r), r.Intn(6), r.Intn(30)-15
		got, e := Place(d, n, way)
		if e != api.OK {
			t.Fatal(d, n, way, e)
		}
		checkRounded(t, d, got, -n, way)
		if again, _ := Place(got, n, way); again != got {
			t.Fatal(d, n, way)
		}
		n = r.Intn(12) + 1
		if got, e = Sig(d, n, way); e != api.OK || len(got.Digits) > n || len(d.Digits) <= n && got != d {
			t.Fatal(d, n, way, got, e)
		}
		if len(d.Digits) > n {
			checkRounded(t, d, got, d.Exp+len(d.Digits)-n, way)
		}
	}
	for _, c := range []struct {
		s      string
		n, way int
		want   string
	}{{"12345", 3, api.Even, "12300"}, {"12350", 3, api.Even, "12400"}, {"-12350", 3, api.Low, "-12400"}, {"9.99", 1, api.Up, "10"}, {"0", 1, api.Up, "0"}} {
		if x, e := Sig(dec(c.s), c.n, c.way); x != dec(c.want) || e != 0 {
			t.Error(c, x, e)
		}
	}
	for _, c := range []struct {
		s      string
		n, way int
		want   string
	}{{"2.5", 0, api.Even, "2"}, {"-0.4", 0, api.Away, "-0"}, {"1250", -2, api.Even, "1200"}, {"0.001", 2, api.High, "0.01"}, {"-0.05", 1, api.Low, "-0.1"}, {"-0", -3, api.Up, "-0"}, {"1e-100000", 0, api.Up, "1"}, {"1e-90000", -100000, api.Up, "1e100000"}, {"5", -100000, api.Away, "0"}} {
		if x, e := Place(dec(c.s), c.n, c.way); x != dec(c.want) || e != 0 {
			t.Error(c, x, e)
		}
	}
}

func TestD3Errors(t *testing.T) {
	one, bad, top := dec("1"), api.Dec{Digits: "10"}, api.Dec{Digits: "99", Exp: 99999}
	for i, c := range []struct {
		d      api.Dec
		n, way int
		e      api.Errno
	}{{bad, 1, 0, api.ErrArg}, {one, 1, 6, api.ErrArg}, {one, 1, -1, api.ErrArg}, {one, 0, 0, api.ErrArg}, {one, math.MinInt, 0, api.ErrArg}, {top, 1, api.Up, api.ErrOver}, {one, math.MaxInt, 0, 0}, {top, 1, api.Down, 0}} {
		if x, e := Sig(c.d, c.n, c.way); e != c.e || e != 0 && x != (api.Dec{}) {
			t.Error(i, x, e)
		}
	}
	for i, c := range []struct {
		d      api.Dec
		n, way int
		e      api.Errno
	}{{bad, 1, 0, api.ErrArg}, {one, 1, 6, api.ErrArg}, {one, 100001, 0, api.ErrArg}, {one, -100001, 0, api.ErrArg}, {one, math.MinInt, 0, api.ErrArg}, {api.Dec{Digits: "99", Exp: 99999}, -100000, api.Up, api.ErrOver}, {one, 100000, 0, 0}} {
		if x, e := Place(c.d, c.n, c.way); e != c.e || e != 0 && x != (api.Dec{}) {
			t.Error(i, x, e)
		}
	}
}

func TestD4(t *testing.T) {
	for _, c := range []struct {
		s    string
		want api.Dec
		e    api.Errno
	}{
		{"-12.50e-3", api.Dec{Neg: true, Digits: "125", Exp: -4}, 0}, {".5", api.Dec{Digits: "5", Exp: -1}, 0}, {"5.", api.Dec{Digits: "5"}, 0}, {"-0", api.Dec{Neg: true}, 0}, {"0e999999999", api.Dec{}, 0}, {"1E+05", api.Dec{Digits: "1", Exp: 5}, 0}, {"1e000000005", api.Dec{Digits: "1", Exp: 5}, 0},
		{".", api.Dec{}, api.ErrForm}, {"1e", api.Dec{}, api.ErrForm}, {"+1", api.Dec{}, api.ErrForm}, {"", api.Dec{}, api.ErrForm}, {"-", api.Dec{}, api.ErrForm}, {"--1", api.Dec{}, api.ErrForm}, {"1.2.3", api.Dec{}, api.ErrForm}, {".e5", api.Dec{}, api.ErrForm}, {"1e5.", api.Dec{}, api.ErrForm}, {"1e+", api.Dec{}, api.ErrForm}, {"1e+-5", api.Dec{}, api.ErrForm}, {"1e0000000005", api.Dec{}, api.ErrForm}, {" 1", api.Dec{}, api.ErrForm}, {"1\xff", api.Dec{}, api.ErrForm}, {"1ee5", api.Dec{}, api.ErrForm}, {"٣", api.Dec{}, api.ErrForm}, {"1-", api.Dec{}, api.ErrForm},
		{"1e100001", api.Dec{}, api.ErrOver}, {"1e-999999999", api.Dec{}, api.ErrOver}, {strings.Repeat("1", 1101), api.Dec{}, api.ErrOver},
	} {
		if d, e := Parse(c.s); d != c.want || e != c.e {
			t.Error(c.s, d, e)
		}
	}
}

func TestD5(t *testing.T) {
	for _, c := range []struct {
		exp  int
		want string
	}{{0, "123"}, {-1, "12.3"}, {-2, "1.23"}, {-3, "0.123"}, {-8, "0.00000123"}, {-9, "1.23e-7"}, {18, "123000000000000000000"}, {19, "1.23e+21"}, {-100000, "1.23e-99998"}} {
		if s := Print(api.Dec{Digits: "123", Exp: c.exp}); s != c.want {
			t.Error(c, s)
		}
		if s := Print(api.Dec{Neg: true, Digits: "123", Exp: c.exp}); s != "-"+c.want {
			t.Error(c, s)
		}
	}
	for _, c := range []struct {
		d    api.Dec
		want string
	}{{api.Dec{}, "0"}, {api.Dec{Neg: true}, "-0"}, {api.Dec{Digits: "1", Exp: 21}, "1e+21"}, {api.Dec{Digits: "1", Exp: 20}, "100000000000000000000"}, {api.Dec{Digits: "10"}, ""}, {api.Dec{Digits: "1234567890123456789012"}, "1.234567890123456789012e+21"}, {api.Dec{Digits: "1", Exp: -6}, "0.000001"}, {api.Dec{Digits: "1", Exp: -7}, "1e-7"}} {
		if s := Print(c.d); s != c.want {
			t.Error(c, s)
		}
	}
}

func TestD6(t *testing.T) {
	r := rand.New(rand.NewSource(6))
	for range 20000 {
		a, b, n, way := some(r), some(r), r.Intn(20)-10, r.Intn(6)
		a.Exp *= len(a.Digits) % 7
		b.Exp *= len(a.Digits) % 7
		if d, e := Parse(Print(a)); d != a || e != 0 {
			t.Fatal(a, Print(a), d, e)
		}
		if Cmp(a, b) != -Cmp(b, a) {
			t.Fatal(a, b)
		}
		x, _ := Place(a, n, way)
		y, _ := Place(b, n, way)
		if Cmp(a, b)*Cmp(x, y) < 0 {
			t.Fatal(a, b, n, way)
		}
	}
}
