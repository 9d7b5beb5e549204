// Package frac has fractions: rational numbers in lowest terms, within the bounds of package api.
package frac

import (
	"umpirage/api"
)

// Check tells what is wrong with a fraction.
func Check(f api.Frac) api.Fault {
	if !valid(f) {
		return api.Fault{Code: api.ErrRange}
	}
	return api.Fault{}
}

// Make is the fraction num/den, in lowest terms.
func Make(num, den int) (api.Frac, api.Fault) {
	if den == 0 {
		return api.Frac{}, api.Fault{Code: api.ErrNone}
	}
	n, d := size(num), size(den)
	g := divisor(n, d)
	n, d = n/g, d/g
	if n > api.MaxNum || d > api.MaxNum {
		return api.Frac{}, api.Fault{Code: api.ErrMuch}
	}
	f := api.Frac{Num: int(n), Den: int(d)}
	if (num < 0) != (den < 0) {
		f.Num = -f.Num
	}
	return f, api.Fault{}
}

// Add is the sum.
func Add(a, b api.Frac) (api.Frac, api.Fault) {
	return ofValid(a, b, func() (api.Frac, api.Fault) {
		return Make(a.Num*b.Den+b.Num*a.Den, a.Den*b.Den)
	})
}

// Sub is the difference.
func Sub(a, b api.Frac) (api.Frac, api.Fault) {
	return ofValid(a, b, func() (api.Frac, api.Fault) {
		return Make(a.Num*b.Den-b.Num*a.Den, a.Den*b.Den)
	})
}

// Times is the product.
func Times(a, b api.Frac) (api.Frac, api.Fault) {
	return ofValid(a, b, func() (api.Frac, api.Fault) {
		return Make(a.Num*b.Num, a.Den*b.Den)
	})
}

// Over is the quotient.
func Over(a, b api.Frac) (api.Frac, api.Fault) {
	return ofValid(a, b, func() (api.Frac, api.Fault) {
		return Make(a.Num*b.Den, a.Den*b.Num)
	})
}

// Less tells whether a is less than b.
func Less(a, b api.Frac) (bool, api.Fault) {
	return ofValid(a, b, func() (bool, api.Fault) {
		return a.Num*b.Den < b.Num*a.Den, api.Fault{}
	})
}

// Floor is the greatest whole number that is not greater than f.
func Floor(f api.Frac) (int, api.Fault) {
	if fault := Check(f); fault != (api.Fault{}) {
		return 0, fault
	}
	whole := f.Num / f.Den
	// Division rounds towards 0, which is upwards below 0.
	if f.Num%f.Den < 0 {
		whole--
	}
	return whole, api.Fault{}
}

// ofValid is what compute returns, if both operands are valid.
// With valid operands compute needs no more than 62 bits: a product of two of their parts is at most 1<<60.
func ofValid[T any](a, b api.Frac, compute func() (T, api.Fault)) (T, api.Fault) {
	for i, f := range [2]api.Frac{a, b} {
		if !valid(f) {
			var none T
			return none, api.Fault{Code: api.ErrRange, At: i}
		}
	}
	return compute()
}

func valid(f api.Frac) bool {
	return f.Den >= 1 && f.Den <= api.MaxNum &&
		f.Num >= -api.MaxNum && f.Num <= api.MaxNum &&
		divisor(size(f.Num), size(f.Den)) == 1
}

// size is n without its sign; it is unsigned because the least int has no counterpart above 0.
func size(n int) uint64 {
	if n < 0 {
		return -uint64(n)
	}
	return uint64(n)
}

// divisor is the greatest common divisor of two numbers that are not both 0.
func divisor(a, b uint64) uint64 {
	for b != 0 {
		a, b = b, a%b
	}
	return a
}
