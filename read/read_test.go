package read

import (
	"math"
	"math/big"
	"math/rand"
	"strconv"
	"strings"
	"sync"
	"testing"

	"tabard/api"
	"tabard/decimal"
)

func want(s string) uint64 {
	x, _ := strconv.ParseFloat(s, 64)
	return math.Float64bits(x)
}

// halfway is the numeral that lies exactly between a number and the next one, with a digit behind it.
func halfway(x float64, tail string) string {
	y := new(big.Float).SetPrec(2000).SetFloat64(x)
	y.Add(y, new(big.Float).SetFloat64(math.Nextafter(x, math.Inf(1)))).Quo(y, big.NewFloat(2))
	s := strings.TrimRight(y.Text('f', 1080), "0")
	return s + tail
}

func TestE1(t *testing.T) {
	r := New()
	for i, d := range []api.Dec{{Digits: "10"}, {Digits: "01"}, {Digits: "x"}, {Exp: 1}, {Digits: "1", Exp: 100001}} {
		if x, e := r.Bits(d); x != 0 || e != api.ErrArg {
			t.Error(i, x, e)
		}
	}
	for _, c := range []struct {
		d    api.Dec
		want uint64
	}{{api.Dec{}, 0}, {api.Dec{Neg: true}, api.NegZero}, {api.Dec{Digits: "1", Exp: 100000}, api.Inf}, {api.Dec{Neg: true, Digits: "1", Exp: 309}, api.NegInf}, {api.Dec{Neg: true, Digits: "1", Exp: -100000}, api.NegZero}, {api.Dec{Neg: true, Digits: "1", Exp: -400}, api.NegZero}, {api.Dec{Digits: "1"}, api.One},
		{api.Dec{Digits: "1" + strings.Repeat("0", 1098) + "1", Exp: -1099}, api.One}, {api.Dec{Digits: strings.Repeat("9", 1100), Exp: -100000}, 0}, {api.Dec{Digits: strings.Repeat("9", 1100), Exp: 100000}, api.Inf}} {
		if x, e := r.Bits(c.d); x != c.want || e != api.OK {
			t.Errorf("%v: %x %d", c.d, x, e)
		}
	}
	if x, e := (&Reader{}).Bits(api.Dec{Digits: "1", Exp: -1}); x != 0x3FB999999999999A || e != api.OK {
		t.Error(x, e)
	}
}

func TestE2(t *testing.T) {
	r := New()
	for _, s := range []string{"0.1", "-0", "1e400", "-1e-400", "9007199254740993", "2.4703282292062327e-324", "2.4703282292062328e-324", "1.7976931348623158e308", "1.7976931348623159e308", "4.9e-324", "2.2250738585072011e-308", "2.2250738585072014e-308", "1e23", "8.5e22", "123456789012345678901234567890", "6.631236846766476e-316", "5e-324", "1e-323", "1e309", "179769313486231580793728971405303415079934132710037826936173778980444968292764750946649017977587207096330286416692887910946555547851940402630657488671505820681908902000708383676273854845817711531764475730270069855571366959622842914819860834936475292719074168444365510704342711559699508093042880", "1.00000000000000011102230246251565404236316680908203125", "1.00000000000000011102230246251565404236316680908203126", "1.00000000000000011102230246251565404236316680908203124"} {
		if x, e := r.Parse(s); x != want(s) || e != api.OK {
			t.Errorf("%s: %x %d", s, x, e)
		}
	}
	for _, c := range []struct {
		s string
		e api.Errno
	}{{"", api.ErrForm}, {"x", api.ErrForm}, {"+1", api.ErrForm}, {"inf", api.ErrForm}, {"1e100001", api.ErrOver}, {strings.Repeat("3", 1101), api.ErrOver}} {
		if x, e := r.Parse(c.s); x != 0 || e != c.e {
			t.Error(c, x, e)
		}
	}
	rnd := rand.New(rand.NewSource(2))
	for i := range 60000 {
		x := math.Float64frombits(rnd.Uint64() &^ (1 << 63))
		if x != x || math.IsInf(x, 0) {
			continue
		}
		s := strconv.FormatFloat(x, 'e', rnd.Intn(20), 64)
		if i%30 == 0 {
			s = halfway(x, []string{"", "", "0", "1"}[rnd.Intn(4)])
		}
		if i%30 == 1 {
			s = halfway(math.Ldexp(rnd.Float64(), -1040-rnd.Intn(34)), []string{"", "1"}[rnd.Intn(2)])
		}
		if d, e := decimal.Parse(s); e != api.OK || d.Digits == "" {
			continue
		}
		if y, e := r.Parse(s); y != want(s) || e != api.OK {
			t.Fatalf("%s: %x %d, not %x", s, y, e, want(s))
		}
	}
}

func TestE3(t *testing.T) {
	r := New()
	for n := -400; n <= 400; n++ {
		p, e, exact, err := r.Power(n)
		v := new(big.Int).SetUint64(p.Hi)
		v.Lsh(v, 64).Or(v, new(big.Int).SetUint64(p.Lo))
		low, high := new(big.Rat).SetInt(v), new(big.Rat).SetInt(v.Add(v, big.NewInt(1)))
		two, _ := new(big.Rat).SetString("1p" + strconv.Itoa(e))
		ten, _ := new(big.Rat).SetString("1e" + strconv.Itoa(n))
		low.Mul(low, two)
		high.Mul(high, two)
		if err != api.OK || p.Hi>>63 != 1 || low.Cmp(ten) > 0 || high.Cmp(ten) <= 0 || exact != (low.Cmp(ten) == 0) || exact != (0 <= n && n <= 55) {
			t.Fatal(n, p, e, exact, err)
		}
	}
	for _, n := range []int{401, -401, math.MaxInt, math.MinInt} {
		if p, e, exact, err := r.Power(n); p.Hi != 0 || p.Lo != 0 || e != 0 || exact || err != api.ErrArg {
			t.Error(n, p, e, exact, err)
		}
	}
}

func TestE4(t *testing.T) {
	r, other := New(), New()
	rnd := rand.New(rand.NewSource(4))
	var wait sync.WaitGroup
	for range 4 {
		wait.Go(func() { _, _ = r.Parse("1.5e-300") })
	}
	wait.Wait()
	for range 20000 {
		v := rnd.Int63() >> (10 + rnd.Intn(53))
		if x, _ := r.Parse(strconv.FormatInt(v, 10)); x != math.Float64bits(float64(v)) {
			t.Fatal(v)
		}
		a := api.Dec{Digits: strconv.Itoa(rnd.Intn(1<<40)) + "1", Exp: rnd.Intn(600) - 320}
		b := api.Dec{Digits: a.Digits + strconv.Itoa(rnd.Intn(1<<40)) + "1"}
		b.Exp = a.Exp - len(b.Digits) + len(a.Digits)
		x, _ := r.Bits(a)
		y, _ := r.Bits(b)
		if z, _ := other.Bits(a); x > y || x != z {
			t.Fatal(a, b)
		}
	}
}
