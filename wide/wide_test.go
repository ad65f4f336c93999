package wide

import (
	"math"
	"math/big"
	"math/rand"
	"testing"

	"tabard/api"
)

const top = 1<<64 - 1

func words(l ...uint64) *big.Int {
	r := new(big.Int)
	for _, x := range l {
		r.Lsh(r, 64).Or(r, new(big.Int).SetUint64(x))
	}
	return r
}

func (a U128) big() *big.Int { return words(a.Hi, a.Lo) }

func (a U192) big() *big.Int { return words(a.Hi, a.Mid, a.Lo) }

func edge(r *rand.Rand) uint64 {
	x := r.Uint64()
	return []uint64{0, 1, top, 1 << 63, x, x >> r.Intn(64), 1 << r.Intn(64)}[r.Intn(7)]
}

func cut(x *big.Int, n uint) *big.Int {
	m := new(big.Int).Lsh(big.NewInt(1), n)
	return new(big.Int).Mod(x, m)
}

func TestW1(t *testing.T) {
	r := rand.New(rand.NewSource(1))
	for range 50000 {
		a, b := U128{edge(r), edge(r)}, U128{edge(r), edge(r)}
		if r.Intn(4) == 0 {
			b.Hi = a.Hi
		}
		x, y := a.big(), b.big()
		if Cmp(a, b) != x.Cmp(y) || Cmp(a, a) != 0 || Len(a) != x.BitLen() {
			t.Fatal(a, b)
		}
		sum := new(big.Int).Add(x, y)
		if s, over := Add(a, b); s.big().Cmp(cut(sum, 128)) != 0 || over != (sum.BitLen() > 128) {
			t.Fatal(a, b, s, over)
		}
		if d, under := Sub(a, b); d.big().Cmp(cut(new(big.Int).Sub(x, y), 128)) != 0 || under != (x.Cmp(y) < 0) {
			t.Fatal(a, b, d, under)
		}
		if p := Mul(a.Lo, b.Lo); p.big().Cmp(new(big.Int).Mul(words(a.Lo), words(b.Lo))) != 0 {
			t.Fatal(a, b, p)
		}
	}
	if s, over := Add(U128{top, top}, U128{0, 1}); s != (U128{}) || !over {
		t.Error(s, over)
	}
	if d, under := Sub(U128{}, U128{0, 1}); d != (U128{top, top}) || !under {
		t.Error(d, under)
	}
	if p := Mul(top, top); p != (U128{top - 1, 1}) {
		t.Error(p)
	}
	if n := Len(U128{8, 0}); n != 68 || Len(U128{}) != 0 {
		t.Error(n)
	}
}

func TestW2(t *testing.T) {
	r := rand.New(rand.NewSource(2))
	for range 50000 {
		a, n, b := U128{edge(r), edge(r)}, r.Intn(200), edge(r)
		x := a.big()
		if s := Shl(a, n); s.big().Cmp(cut(new(big.Int).Lsh(x, uint(n)), 128)) != 0 {
			t.Fatal(a, n, s)
		}
		want := new(big.Int).Rsh(x, uint(n))
		if s, lost := Shr(a, n); s.big().Cmp(want) != 0 || lost != (new(big.Int).Lsh(want, uint(n)).Cmp(x) != 0) {
			t.Fatal(a, n, s, lost)
		}
		root := new(big.Int).Sqrt(x)
		if w, exact := Root(a); words(w).Cmp(root) != 0 || exact != (new(big.Int).Mul(root, root).Cmp(x) == 0) {
			t.Fatal(a, w, exact)
		}
		q, m, e := Div(a, b)
		if b == 0 {
			if q != (U128{}) || m != 0 || e != api.ErrDiv {
				t.Fatal(a, q, m, e)
			}
			continue
		}
		wantQ, wantM := new(big.Int).QuoRem(x, words(b), new(big.Int))
		if q.big().Cmp(wantQ) != 0 || words(m).Cmp(wantM) != 0 || e != api.OK {
			t.Fatal(a, b, q, m, e)
		}
	}
	if w, exact := Root(U128{top, top}); w != top || exact {
		t.Error(w, exact)
	}
	if w, exact := Root(U128{1, 0}); w != 1<<32 || !exact {
		t.Error(w, exact)
	}
}

func TestW2Counts(t *testing.T) {
	a := U128{5, 1<<63 + 3}
	for _, n := range []int{0, -1, math.MinInt} {
		if s, lost := Shr(a, n); Shl(a, n) != a || s != a || lost {
			t.Error(n, s, lost)
		}
	}
	for _, n := range []int{128, 129, 192, 1 << 40, math.MaxInt} {
		if s, lost := Shr(a, n); Shl(a, n) != (U128{}) || s != (U128{}) || !lost {
			t.Error(n, s, lost)
		}
		if _, lost := Shr(U128{}, n); lost {
			t.Error(n)
		}
	}
}

func TestW3(t *testing.T) {
	r := rand.New(rand.NewSource(3))
	for range 50000 {
		a, b := U128{edge(r), edge(r)}, edge(r)
		p := Times(a, b)
		if p.big().Cmp(new(big.Int).Mul(a.big(), words(b))) != 0 {
			t.Fatal(a, b, p)
		}
		c, n := U192{edge(r), edge(r), edge(r)}, r.Intn(260)
		x := c.big()
		want := new(big.Int).Rsh(x, uint(n))
		if d, lost := Drop(c, n); d.big().Cmp(want) != 0 || lost != (new(big.Int).Lsh(want, uint(n)).Cmp(x) != 0) {
			t.Fatal(c, n, d, lost)
		}
		if Low(c).big().Cmp(cut(x, 128)) != 0 {
			t.Fatal(c)
		}
	}
	c := U192{1, 2, 3}
	for _, n := range []int{0, -1, math.MinInt} {
		if d, lost := Drop(c, n); d != c || lost {
			t.Error(n, d, lost)
		}
	}
	for _, n := range []int{192, 193, 1000, math.MaxInt} {
		if d, lost := Drop(c, n); d != (U192{}) || !lost {
			t.Error(n, d, lost)
		}
	}
	if _, lost := Drop(U192{}, math.MaxInt); lost {
		t.Error("0 loses nothing")
	}
}

func TestW4(t *testing.T) {
	r := rand.New(rand.NewSource(4))
	for range 20000 {
		a, b, n := U128{edge(r), edge(r)}, U128{edge(r), edge(r)}, r.Intn(64)
		s, _ := Add(a, b)
		if d, _ := Sub(s, b); d != a {
			t.Fatal(a, b)
		}
		if back, lost := Shr(Shl(U128{0, a.Lo}, n), n); back != (U128{0, a.Lo}) || lost {
			t.Fatal(a, n)
		}
		if d, lost := Drop(Times(a, 1<<n), n); Low(d) != a || d.Hi != 0 || lost {
			t.Fatal(a, n)
		}
		if b.Lo == 0 {
			continue
		}
		q, m, _ := Div(a, b.Lo)
		p := Times(q, b.Lo)
		if back, over := Add(Low(p), U128{0, m}); back != a || over || p.Hi != 0 || m >= b.Lo {
			t.Fatal(a, b)
		}
	}
}
