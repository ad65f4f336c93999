package float

import (
	"math"
	"math/big"
	"math/rand"
	"testing"

	"tabard/api"
	"tabard/nat"
	"tabard/wide"
)

func bitsOf(x float64) uint64 { return math.Float64bits(x) }

// some is any bits, with many edges.
func some(r *rand.Rand) uint64 {
	x := r.Uint64()
	return []uint64{x, 0, 1, api.NegZero, api.NegZero + 1, api.Most, api.Inf, api.NegInf, api.NaN, 0x7FF0000000000001, 0xFFFFFFFFFFFFFFFF, x & field, x | field, x &^ field, x&field | 1<<fieldSize}[r.Intn(15)]
}

// want is the nearest binary64 as the library finds it; n is not 0.
func want(neg bool, n *big.Int, e int, more bool) uint64 {
	if more {
		n = new(big.Int).Lsh(n, 3000)
		n.SetBit(n, 0, 1)
		e -= 3000
	}
	f := new(big.Float).SetMode(big.ToNearestEven).SetPrec(0).SetInt(n)
	f.SetMantExp(f, e)
	x, _ := f.Float64()
	if neg {
		x = math.Copysign(x, -1)
	}
	return bitsOf(x)
}

func TestF1(t *testing.T) {
	for _, c := range []struct {
		x    uint64
		kind int
	}{{0, Zero}, {api.NegZero, Zero}, {1, Small}, {0x000FFFFFFFFFFFFF, Small}, {0x0010000000000000, Normal}, {api.One, Normal}, {api.Most, Normal}, {api.Inf, Endless}, {api.NegInf, Endless}, {0x7FF0000000000001, None}, {api.NaN, None}, {0xFFF0000000000001, None}, {math.MaxUint64, None}} {
		if Kind(c.x) != c.kind {
			t.Errorf("%x: %d", c.x, Kind(c.x))
		}
		if r := Right(c.x); c.kind == None && r != api.NaN || c.kind != None && r != c.x {
			t.Errorf("%x: %x", c.x, r)
		}
	}
	for _, c := range []struct {
		x   uint64
		neg bool
		m   uint64
		e   int
	}{{bitsOf(-1.5), true, 3 << 51, -52}, {5, false, 5, -1074}, {0, false, 0, -1074}, {api.NegZero, true, 0, -1074}, {api.Most, false, 1<<53 - 1, 971}, {0x0010000000000000, false, 1 << 52, -1074}, {api.NegInf, true, 0, 0}, {api.Inf, false, 0, 0}, {0xFFF0000000000001, true, 0, 0}} {
		if neg, m, e := Split(c.x); neg != c.neg || m != c.m || e != c.e {
			t.Errorf("%x: %v %d %d", c.x, neg, m, e)
		}
	}
}

func TestF2(t *testing.T) {
	for _, c := range []struct {
		neg  bool
		a    wide.U128
		e    int
		more bool
		want uint64
	}{
		{false, wide.U128{Lo: 1}, 0, false, api.One}, {true, wide.U128{Lo: 3}, -1, false, bitsOf(-1.5)},
		{false, wide.U128{Lo: 1}, -1075, false, 0}, {false, wide.U128{Lo: 1}, -1075, true, 1}, {false, wide.U128{Lo: 1}, -1076, true, 0},
		{false, wide.U128{Lo: 1<<53 + 1}, 0, false, bitsOf(1 << 53)}, {false, wide.U128{Lo: 1<<53 + 3}, 0, false, bitsOf(1<<53 + 4)},
		{false, wide.U128{Lo: 1<<53 + 1}, 0, true, bitsOf(1<<53 + 2)}, {false, wide.U128{Lo: 1}, 1024, false, api.Inf},
		{false, wide.U128{Lo: 1<<54 - 1}, 970, false, api.Inf}, {false, wide.U128{Lo: 1<<54 - 2}, 970, true, api.Most},
		{false, wide.U128{}, 5, true, 0}, {true, wide.U128{}, math.MaxInt, true, api.NegZero},
		{true, wide.U128{Lo: 1}, math.MaxInt, false, api.NegInf}, {true, wide.U128{Hi: math.MaxUint64, Lo: 5}, math.MinInt, true, api.NegZero},
		{false, wide.U128{Hi: 1}, -64, false, api.One}, {false, wide.U128{Hi: 1 << 63}, -127 - 1074, false, 1},
	} {
		if x := Join(c.neg, c.a, c.e, c.more); x != c.want {
			t.Errorf("%v: %x", c, x)
		}
	}
	r := rand.New(rand.NewSource(2))
	for range 20000 {
		a := wide.U128{Hi: r.Uint64() >> r.Intn(64) >> r.Intn(2), Lo: r.Uint64()}
		if r.Intn(2) == 0 {
			a = wide.U128{Lo: (r.Uint64()>>r.Intn(64))&^(1<<r.Intn(64)-1) | 1}
		}
		e, neg, more := r.Intn(2400)-1300, r.Intn(2) == 0, r.Intn(2) == 0
		n := new(big.Int).SetUint64(a.Hi)
		n.Lsh(n, 64).Or(n, new(big.Int).SetUint64(a.Lo))
		if x := Join(neg, a, e, more); x != want(neg, n, e, more) {
			t.Fatalf("%v %v %d %v: %x", neg, a, e, more, x)
		}
	}
}

func TestF2Round(t *testing.T) {
	long := make(nat.Nat, 40)
	long[0], long[39] = 1, 1
	huge := make(nat.Nat, 2000)
	huge[1500] = 3
	for i, c := range []struct {
		n    nat.Nat
		e    int
		more bool
		want uint64
	}{
		{long, -1248, false, api.One}, {nil, 3, true, 0}, {nat.Nat{0, 0}, math.MinInt, true, 0},
		{huge, -48000, false, bitsOf(3)}, {huge, 0, false, api.Inf}, {huge, math.MaxInt, false, api.Inf}, {huge, math.MinInt, true, 0},
		{nat.Nat{1, 0, 0, 0, 0, 0}, -1075, false, 0}, {nat.Nat{1, 0, 0, 0, 0, 0}, -1075, true, 1},
		{nat.Nat{1, 1 << 21}, 0, false, bitsOf(1 << 53)}, {nat.Nat{3, 1 << 21}, 0, false, bitsOf(1<<53 + 4)},
		{nat.Nat{1, 0, 1, 1 << 21}, -64, false, bitsOf(1<<53 + 2)},
	} {
		if x := Round(false, c.n, c.e, c.more); x != c.want {
			t.Errorf("%d: %x", i, x)
		}
		if x := Round(true, c.n, c.e, c.more); x != c.want|api.NegZero {
			t.Errorf("%d: %x", i, x)
		}
	}
	r := rand.New(rand.NewSource(3))
	for range 20000 {
		n := make(nat.Nat, r.Intn(8)+1)
		for i := range n {
			n[i] = []uint32{0, 0, 1, math.MaxUint32, 1 << 31, r.Uint32()}[r.Intn(6)]
		}
		b := new(big.Int)
		for i := len(n) - 1; i >= 0; i-- {
			b.Lsh(b, 32).Or(b, big.NewInt(int64(n[i])))
		}
		e, more := r.Intn(2600)-1400, r.Intn(2) == 0
		if x := Round(true, n, e, more); b.Sign() != 0 && x != want(true, b, e, more) {
			t.Fatalf("%v %d %v: %x", n, e, more, x)
		}
	}
}

// A number halfway between two, and a bit far below: where the bits that are dropped lie in limbs of any kind.
func TestF2Ties(t *testing.T) {
	for shift := range 150 {
		tie, _ := nat.Shl(nat.Of(1<<53+1), shift)
		if x := Round(false, tie, -shift, false); x != bitsOf(1<<53) {
			t.Fatalf("%d: %x", shift, x)
		}
		for low := range shift {
			bit, _ := nat.Shl(nat.Of(1), low)
			n, _ := nat.Add(tie, bit)
			if x := Round(false, n, -shift, false); x != bitsOf(1<<53+2) {
				t.Fatalf("%d %d: %x", shift, low, x)
			}
			n, _ = nat.Sub(tie, bit)
			if x := Round(false, n, -shift, false); x != bitsOf(1<<53) {
				t.Fatalf("%d %d: %x", shift, low, x)
			}
		}
	}
}

func TestF1Constants(t *testing.T) {
	if Zero != 0 || Small != 1 || Normal != 2 || Endless != 3 || None != 4 {
		t.Error("constants")
	}
}

func TestF3(t *testing.T) {
	for _, x := range []uint64{0x7FF0000000000001, 0xFFF8000000000000, api.NaN, math.MaxUint64} {
		if Neg(x) != api.NaN || Abs(x) != api.NaN || Next(x) != api.NaN || Prev(x) != api.NaN {
			t.Errorf("%x", x)
		}
	}
	for _, c := range []struct{ x, next, prev uint64 }{
		{0, 1, api.NegZero + 1}, {api.NegZero, 1, api.NegZero + 1}, {1, 2, 0}, {api.NegZero + 1, api.NegZero, api.NegZero + 2},
		{api.Most, api.Inf, api.Most - 1}, {api.Inf, api.Inf, api.Most}, {api.NegInf, 0xFFEFFFFFFFFFFFFF, api.NegInf}, {api.One, api.One + 1, api.One - 1},
		{0x000FFFFFFFFFFFFF, 0x0010000000000000, 0x000FFFFFFFFFFFFE},
	} {
		if Next(c.x) != c.next || Prev(c.x) != c.prev {
			t.Errorf("%x: %x %x", c.x, Next(c.x), Prev(c.x))
		}
	}
	if Neg(0) != api.NegZero || Neg(api.NegZero) != 0 || Neg(api.Inf) != api.NegInf || Abs(api.NegInf) != api.Inf || Abs(api.NegZero) != 0 || Abs(5) != 5 {
		t.Error("signs")
	}
}

func TestF4(t *testing.T) {
	r := rand.New(rand.NewSource(4))
	for range 50000 {
		x := some(r)
		neg, m, e := Split(x)
		if Kind(x) < Endless && (Join(neg, wide.U128{Lo: m}, e, false) != x || Round(neg, nat.Of(m), e, false) != x) {
			t.Fatalf("%x", x)
		}
		if f := math.Float64frombits(x); Kind(x) < Endless {
			if !(math.Float64frombits(Next(x)) > f) || Kind(x) != Zero && Prev(Next(x)) != x {
				t.Fatalf("%x", x)
			}
		}
		a := wide.U128{Hi: r.Uint64() >> r.Intn(64), Lo: r.Uint64()}
		b, _ := wide.Add(a, wide.U128{Lo: r.Uint64() >> r.Intn(64)})
		e = r.Intn(2400) - 1300
		if wide.Cmp(a, b) <= 0 && Join(false, a, e, false) > Join(false, b, e, false) {
			t.Fatal(a, b, e)
		}
	}
}
