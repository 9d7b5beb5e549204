package row

import (
	"umpirage/api"
	"umpirage/frac"
)

// sum is an exact sum of fractions, (above - below) / unit, where unit is the product of dens.
// Twelve fractions have a common denominator of up to 360 bits: hence the longs.
type sum struct {
	above, below, unit long
	dens               []int
}

// sumAt is the sum of a valid row at a valid point.
func sumAt(r api.Row, nums []api.Frac) sum {
	s := sum{unit: long{1}}
	for i, c := range r.Of {
		s = s.plus(c, nums[i])
	}
	return s
}

// plus is the sum with c times f more.
func (s sum) plus(c int, f api.Frac) sum {
	share := s.unit.times(max(c, -c)).times(max(f.Num, -f.Num))
	out := sum{
		above: s.above.times(f.Den),
		below: s.below.times(f.Den),
		unit:  s.unit.times(f.Den),
		dens:  append(s.dens, f.Den),
	}
	if (c < 0) == (f.Num < 0) {
		out.above = out.above.plus(share)
	} else {
		out.below = out.below.plus(share)
	}
	return out
}

// sign is above 0, 0 or below 0, as the sum is.
func (s sum) sign() int { return s.above.compare(s.below) }

// value is the sum as a fraction.
func (s sum) value() (api.Frac, api.Fault) {
	sign, num, den := 1, long(nil), 1
	if s.sign() < 0 {
		sign, num = -1, s.below.minus(s.above)
	} else {
		num = s.above.minus(s.below)
	}
	// In the end num and den have no divisor in common: each part of den lost all that it shared with num,
	// and what remains of num divides what num was then.
	for _, d := range s.dens {
		_, left := num.over(d)
		g := divisor(d, left)
		num, _ = num.over(g)
		den *= d / g
		if den > api.MaxNum {
			return api.Frac{}, api.Fault{Code: api.ErrMuch}
		}
	}
	n, ok := num.small()
	if !ok {
		return api.Frac{}, api.Fault{Code: api.ErrMuch}
	}
	return frac.Make(sign*n, den)
}
