package exact

import (
	"math/bits"

	"tabard/api"
	"tabard/float"
)

const (
	greatest = 9999
	// A number of 53 bits with more places than this is below one half of 1 / 9999, so that 0 is the fraction nearest to it.
	farPlaces = 68
)

// pair is a fraction.
type pair struct{ num, den uint64 }

// part is num / 2^places, from 0 up to 1.
type part struct {
	num    uint64
	places int
}

// Ratio is the nearest fraction.
func Ratio(x uint64, most int) (Fraction, api.Errno) {
	if float.Kind(x) >= float.Endless {
		return Fraction{}, api.ErrNumber
	}
	if most < 1 || most > greatest {
		return Fraction{}, api.ErrArg
	}
	neg, m, e := float.Split(x)
	if e >= 0 || m == 0 {
		d, _ := asDecimal(neg, m, e)
		return Fraction{Whole: d, Den: 1}, api.OK
	}
	zeros := min(bits.TrailingZeros64(m), -e)
	m, e = m>>zeros, e+zeros
	whole := m >> -e
	near := nearest(part{m - whole<<-e, -e}, uint64(most))
	if near == (pair{1, 1}) {
		whole, near = whole+1, pair{0, 1}
	}
	d, _ := asDecimal(neg, whole, 0)
	return Fraction{d, int(near.num), int(near.den)}, api.OK
}

// nearest is the nearest fraction with a denominator that isn't greater than most.
func nearest(f part, most uint64) pair {
	best := pair{0, 1}
	if f.num == 0 || f.places > farPlaces {
		return best
	}
	low, high := neighbours(f, most)
	consider := func(p pair) {
		if p != best && f.nearer(p, best) {
			best = p
		}
	}
	consider(low)
	consider(high)
	return best
}

// neighbours are the greatest fraction that isn't greater than f, and the least that isn't less.
func neighbours(f part, most uint64) (pair, pair) {
	low, high := pair{0, 1}, pair{1, 1}
	for low.den+high.den <= most {
		mid := pair{low.num + high.num, low.den + high.den}
		switch f.against(mid) {
		case 0:
			return mid, mid
		case -1:
			high = mid
		default:
			low = mid
		}
	}
	return low, high
}

// against compares f with a fraction.
func (f part) against(p pair) int {
	hi, lo := bits.Mul64(f.num, p.den)
	up, low := shifted(p.num, f.places)
	switch {
	case hi == up && lo == low:
		return 0
	case hi < up || hi == up && lo < low:
		return -1
	}
	return 1
}

// nearer tells whether p is to be taken rather than q: it is nearer, or has the lesser denominator or numerator.
func (f part) nearer(p, q pair) bool {
	// Both distances are taken times 2^places and both denominators.
	hiP, loP := f.distance(p, q.den)
	hiQ, loQ := f.distance(q, p.den)
	if hiP != hiQ {
		return hiP < hiQ
	}
	if loP != loQ {
		return loP < loQ
	}
	return p.den < q.den || p.den == q.den && p.num < q.num
}

// distance is that of f and p, times 2^places, p's denominator and another number, in 128 bits.
func (f part) distance(p pair, by uint64) (uint64, uint64) {
	hi, lo := bits.Mul64(f.num, p.den)
	up, low := shifted(p.num, f.places)
	if f.against(p) < 0 {
		hi, lo, up, low = up, low, hi, lo
	}
	lo, borrow := bits.Sub64(lo, low, 0)
	hi, _ = bits.Sub64(hi, up, borrow)
	carry, lo := bits.Mul64(lo, by)
	return hi*by + carry, lo
}

// shifted is v times 2^n in 128 bits.
func shifted(v uint64, n int) (uint64, uint64) {
	if n >= 64 {
		return v << (n - 64), 0
	}
	// Go shifts everything out when the count is 64.
	return v >> (64 - n), v << n
}
