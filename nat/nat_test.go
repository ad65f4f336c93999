package nat

import (
	"math"
	"math/big"
	"math/rand"
	"slices"
	"strings"
	"testing"

	"tabard/api"
)

const most = 1<<32 - 1

func full(n int) Nat {
	return slices.Repeat(Nat{most}, n)
}

func toBig(a Nat) *big.Int {
	r := new(big.Int)
	for _, x := range slices.Backward(a) {
		r.Lsh(r, 32).Or(r, big.NewInt(int64(x)))
	}
	return r
}

func same(a Nat, b *big.Int) bool {
	return (len(a) == 0 || a[len(a)-1] != 0) && toBig(a).Cmp(b) == 0
}

// some is a list of limbs with many edges in it, at times with zeros at its end.
func some(r *rand.Rand, most int) Nat {
	a := make(Nat, r.Intn(most+1))
	for i := range a {
		a[i] = []uint32{0, 1, 1<<32 - 1, 1 << 31, r.Uint32(), r.Uint32()}[r.Intn(6)]
	}
	return append(a, make(Nat, r.Intn(3))...)
}

func TestN1(t *testing.T) {
	if x := Trim(Nat{5, 0, 0}); !slices.Equal(x, Nat{5}) {
		t.Error(x)
	}
	if x := Of(1 << 32); !slices.Equal(x, Nat{0, 1}) {
		t.Error(x)
	}
	if x := Of(0); len(x) != 0 {
		t.Error(x)
	}
	if v, ok := Value(Nat{1, 1, 0}); v != 4294967297 || !ok {
		t.Error(v, ok)
	}
	if v, ok := Value(Nat{1, 1, 1}); v != 0 || ok {
		t.Error(v, ok)
	}
	if n := Len(Nat{0, 1, 0}); n != 33 {
		t.Error(n)
	}
	r := rand.New(rand.NewSource(1))
	for range 2000 {
		a, b := some(r, 300), some(r, 300)
		if r.Intn(3) == 0 {
			b = append(Trim(a), 0)
		}
		x, y := toBig(a), toBig(b)
		v, ok := Value(a)
		if !same(Trim(a), x) || Len(a) != x.BitLen() || Cmp(a, b) != x.Cmp(y) || ok != x.IsUint64() || ok && v != x.Uint64() || ok && !same(Of(v), x) {
			t.Fatal(a, b)
		}
	}
}

func TestN2(t *testing.T) {
	r := rand.New(rand.NewSource(2))
	for range 20000 {
		a, b := some(r, 12), some(r, 8)
		x, y := toBig(a), toBig(b)
		if s, e := Add(a, b); e != 0 || !same(s, new(big.Int).Add(x, y)) {
			t.Fatal(a, b, s, e)
		}
		if p, e := Mul(a, b); e != 0 || !same(p, new(big.Int).Mul(x, y)) {
			t.Fatal(a, b, p, e)
		}
		if d, e := Sub(a, b); x.Cmp(y) < 0 && (e != api.ErrRange || len(d) > 0) || x.Cmp(y) >= 0 && (e != 0 || !same(d, new(big.Int).Sub(x, y))) {
			t.Fatal(a, b, d, e)
		}
		q, m, e := DivMod(a, b)
		if y.Sign() == 0 {
			if e != api.ErrDiv || len(q) > 0 || len(m) > 0 {
				t.Fatal(a, b, q, m, e)
			}
			continue
		}
		wantQ, wantM := new(big.Int).QuoRem(x, y, new(big.Int))
		if e != 0 || !same(q, wantQ) || !same(m, wantM) {
			t.Fatal(a, b, q, m, e)
		}
	}
}

func TestN2Bounds(t *testing.T) {
	large := append(full(256), 1)
	for _, c := range []struct {
		a, b          Nat
		add, sub, mul api.Errno
		div           api.Errno
	}{
		{full(256), Nat{1}, api.ErrOver, 0, 0, 0},
		{append(full(256), 0, 0), Nat{0}, 0, 0, 0, api.ErrDiv},
		{full(128), full(128), 0, 0, 0, 0},
		{full(129), full(128), 0, 0, api.ErrOver, 0},
		{large, nil, api.ErrOver, api.ErrOver, api.ErrOver, api.ErrOver},
		{nil, large, api.ErrOver, api.ErrOver, api.ErrOver, api.ErrOver},
	} {
		if x, e := Add(c.a, c.b); e != c.add || e != 0 && len(x) > 0 {
			t.Error("add", len(c.a), len(c.b), e)
		}
		if x, e := Sub(c.a, c.b); e != c.sub || e != 0 && len(x) > 0 {
			t.Error("sub", len(c.a), len(c.b), e)
		}
		if x, e := Mul(c.a, c.b); e != c.mul || e != 0 && len(x) > 0 {
			t.Error("mul", len(c.a), len(c.b), e)
		}
		if q, m, e := DivMod(c.a, c.b); e != c.div || e != 0 && len(q)+len(m) > 0 {
			t.Error("div", len(c.a), len(c.b), e)
		}
	}
}

func TestN3(t *testing.T) {
	r := rand.New(rand.NewSource(3))
	for range 5000 {
		a, n := some(r, 10), r.Intn(200)
		x := toBig(a)
		if s, e := Shl(a, n); e != 0 || !same(s, new(big.Int).Lsh(x, uint(n))) {
			t.Fatal(a, n, s, e)
		}
		s, lost, e := Shr(a, n)
		want := new(big.Int).Rsh(x, uint(n))
		if e != 0 || !same(s, want) || lost != (want.Lsh(want, uint(n)).Cmp(x) != 0) {
			t.Fatal(a, n, s, lost, e)
		}
	}
	for _, c := range []struct {
		a Nat
		n int
		e api.Errno
	}{{Nat{1}, 8191, 0}, {Nat{1}, 8192, api.ErrOver}, {Nat{3}, 8191, api.ErrOver}, {nil, math.MaxInt, 0}, {Nat{0}, 8192, 0}, {Nat{1}, math.MaxInt, api.ErrOver}, {full(300), 0, api.ErrOver}, {full(300), -1, api.ErrArg}, {nil, -1, api.ErrArg}, {nil, math.MinInt, api.ErrArg}} {
		if x, e := Shl(c.a, c.n); e != c.e || e != 0 && len(x) > 0 {
			t.Error(c.n, e)
		}
	}
	for _, c := range []struct {
		a    Nat
		n    int
		lost bool
		e    api.Errno
	}{{full(256), math.MaxInt, true, 0}, {append(full(256), 0), 8192, true, 0}, {nil, 5, false, 0}, {full(257), 5, false, api.ErrOver}, {full(257), -5, false, api.ErrArg}} {
		if x, lost, e := Shr(c.a, c.n); e != c.e || lost != c.lost || len(x) > 0 {
			t.Error(c.n, x, lost, e)
		}
	}
}

func TestN3Pow(t *testing.T) {
	for _, c := range []struct{ base, n int }{{10, 20}, {0, 0}, {0, 1}, {0, math.MaxInt}, {1, math.MaxInt}, {2, 8191}, {5, 1074}, {1000000, 411}, {999983, 410}, {3, 5168}} {
		x, e := Pow(c.base, c.n)
		want := big.NewInt(1)
		if c.base != 1 && c.n < math.MaxInt {
			want.Exp(big.NewInt(int64(c.base)), big.NewInt(int64(c.n)), nil)
		}
		if c.base == 0 && c.n > 0 {
			want.SetInt64(0)
		}
		if e != 0 || !same(x, want) {
			t.Error(c, e)
		}
	}
	for _, c := range []struct {
		base, n int
		e       api.Errno
	}{{2, 8192, api.ErrOver}, {3, 5169, api.ErrOver}, {1000000, 412, api.ErrOver}, {2, math.MaxInt, api.ErrOver}, {1000001, 0, api.ErrArg}, {-1, 2, api.ErrArg}, {2, -1, api.ErrArg}, {0, math.MinInt, api.ErrArg}} {
		if x, e := Pow(c.base, c.n); e != c.e || len(x) > 0 {
			t.Error(c, x, e)
		}
	}
}

func TestN4(t *testing.T) {
	r := rand.New(rand.NewSource(4))
	for range 2000 {
		a := some(r, 300)
		if s := Digits(a); s != toBig(a).String() {
			t.Fatal(a, s)
		}
	}
	top := new(big.Int).Lsh(big.NewInt(1), 8192)
	under := new(big.Int).Sub(top, big.NewInt(1)).String()
	for _, s := range []string{"0", "000", "007", "123456789", "1234567890123456789012", under, strings.Repeat("0", 5000) + under} {
		want, _ := new(big.Int).SetString(s, 10)
		if x, e := Parse(s); e != 0 || !same(x, want) {
			t.Error(s, x, e)
		}
	}
	for _, c := range []struct {
		s string
		e api.Errno
	}{{"", api.ErrForm}, {"+1", api.ErrForm}, {"-1", api.ErrForm}, {"1 ", api.ErrForm}, {"1٣", api.ErrForm}, {top.String(), api.ErrOver}, {strings.Repeat("9", 3000), api.ErrOver}, {strings.Repeat("9", 3000) + "x", api.ErrForm}} {
		if x, e := Parse(c.s); e != c.e || len(x) > 0 {
			t.Error(c.s, x, e)
		}
	}
}

// N5: the laws; and neither arguments nor what lies beyond their length change.
func TestN5(t *testing.T) {
	r := rand.New(rand.NewSource(5))
	for range 2000 {
		a, b, c := some(r, 9), some(r, 9), some(r, 9)
		ab, _ := Add(a, b)
		ac, _ := Mul(a, c)
		bc, _ := Mul(b, c)
		left, _ := Mul(ab, c)
		right, _ := Add(ac, bc)
		back, _ := Sub(ab, b)
		if Cmp(left, right) != 0 || !slices.Equal(back, Trim(a)) {
			t.Fatal(a, b, c)
		}
		n := r.Intn(90)
		p, _ := Pow(2, n)
		up, _ := Shl(a, n)
		up2, _ := Mul(a, p)
		again, _ := Parse(Digits(a))
		if !slices.Equal(up, up2) || !slices.Equal(again, Trim(a)) {
			t.Fatal(a, n)
		}
	}
}

func TestN5Memory(t *testing.T) {
	row := Nat{9, 8, 7, 6, 5, 4, 3, 2, 1}
	before := slices.Clone(row)
	a, b := row[0:4], row[5:7]
	results := func() []Nat {
		add, _ := Add(a, b)
		sub, _ := Sub(a, b)
		mul, _ := Mul(a, b)
		q, m, _ := DivMod(a, b)
		q2, m2, _ := DivMod(b, a)
		q3, m3, _ := DivMod(a, row[8:])
		up, _ := Shl(a, 0)
		down, _, _ := Shr(a, 0)
		return []Nat{Trim(a), add, sub, mul, q, m, q2, m2, q3, m3, up, down}
	}
	for i, x := range results() {
		for k := range x {
			x[k] ^= most
		}
		_ = append(x, 77)
		if !slices.Equal(row, before) {
			t.Fatal(i, row)
		}
	}
	first := results()
	for i, x := range results() {
		if !slices.Equal(x, first[i]) {
			t.Error(i, x)
		}
	}
}
