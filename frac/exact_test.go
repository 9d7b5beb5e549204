package frac_test

import (
	"math"
	"math/big"
	"testing"

	"umpirage/api"
	"umpirage/frac"
)

// These tests compare package frac with the exact rational arithmetic of math/big.

func exact(f api.Frac) *big.Rat { return big.NewRat(int64(f.Num), int64(f.Den)) }

// bounded is r as a fraction, or ErrMuch.
func bounded(r *big.Rat) (api.Frac, api.Fault) {
	limit := big.NewInt(api.MaxNum)
	if r.Num().CmpAbs(limit) > 0 || r.Denom().Cmp(limit) > 0 {
		return api.Frac{}, much
	}
	return of(int(r.Num().Int64()), int(r.Denom().Int64())), fine
}

// integers are small ones, ones about the limits of api, and ones about those of int.
func integers() []int {
	l := []int{math.MinInt, math.MinInt + 1, math.MinInt + 2, math.MaxInt, math.MaxInt - 1}
	for _, n := range []int{0, 1 << 15, 1 << 16, top / 3, top / 2, top, 2 * top, 1 << 32, 1 << 33, 1 << 60, 1 << 62} {
		for more := -4; more <= 4; more++ {
			l = append(l, n+more, -n-more)
		}
	}
	return l
}

// fractions are the valid ones whose parts are among integers.
func fractions() []api.Frac {
	var l []api.Frac
	seen := map[api.Frac]bool{}
	for _, num := range integers() {
		for _, den := range integers() {
			if den < 1 || den > top || num < -top || num > top || seen[of(num, den)] {
				continue
			}
			seen[of(num, den)] = true
			if exact(of(num, den)).Denom().Cmp(big.NewInt(int64(den))) == 0 {
				l = append(l, of(num, den))
			}
		}
	}
	return l
}

func TestMakeIsExact(t *testing.T) {
	for _, num := range integers() {
		for _, den := range integers() {
			want, wantFault := api.Frac{}, none
			if den != 0 {
				want, wantFault = bounded(big.NewRat(int64(num), int64(den)))
			}
			if got, fault := frac.Make(num, den); got != want || fault != wantFault {
				t.Fatalf("Make(%d, %d) = %v %v, want %v %v", num, den, got, fault, want, wantFault)
			}
		}
	}
}

func TestCheckIsExact(t *testing.T) {
	valid := map[api.Frac]bool{}
	for _, f := range fractions() {
		valid[f] = true
	}
	for _, num := range integers() {
		for _, den := range integers() {
			want := rangeAt(0)
			if valid[of(num, den)] {
				want = fine
			}
			if fault := frac.Check(of(num, den)); fault != want {
				t.Fatalf("Check(%d, %d) = %v, want %v", num, den, fault, want)
			}
		}
	}
}

func TestArithmeticIsExact(t *testing.T) {
	for _, c := range []struct {
		name string
		op   binary
		rat  func(z, a, b *big.Rat) *big.Rat
	}{
		{"Add", frac.Add, (*big.Rat).Add},
		{"Sub", frac.Sub, (*big.Rat).Sub},
		{"Times", frac.Times, (*big.Rat).Mul},
		{"Over", frac.Over, (*big.Rat).Quo},
	} {
		t.Run(c.name, func(t *testing.T) {
			t.Parallel()
			compare(t, c.op, func(a, b api.Frac) (api.Frac, api.Fault) {
				if c.name == "Over" && b.Num == 0 {
					return api.Frac{}, none
				}
				return bounded(c.rat(new(big.Rat), exact(a), exact(b)))
			})
		})
	}
}

// compare runs both operations on pairs of fractions, and wants results that are representable as well as others.
func compare(t *testing.T, got, want binary) {
	t.Helper()
	count := map[int]int{}
	l := fractions()
	for i, a := range l {
		for j, b := range l {
			if (i*31+j)%7 != 0 { // a seventh of all pairs, so that the test is quick
				continue
			}
			g, fault := got(a, b)
			w, wantFault := want(a, b)
			if g != w || fault != wantFault {
				t.Fatalf("%v, %v: got %v %v, want %v %v", a, b, g, fault, w, wantFault)
			}
			count[fault.Code]++
		}
	}
	if count[api.OK] < 100 || count[api.ErrMuch] < 100 {
		t.Errorf("too few pairs of a kind: %v", count)
	}
}

func TestLessIsExact(t *testing.T) {
	l := fractions()
	var rats []*big.Rat
	for _, f := range l {
		rats = append(rats, exact(f))
	}
	for i, a := range l {
		for j, b := range l {
			if (i*31+j)%7 != 0 && i != j {
				continue
			}
			want := rats[i].Cmp(rats[j]) < 0
			if got, fault := frac.Less(a, b); got != want || fault != fine {
				t.Fatalf("Less(%v, %v) = %v %v, want %v", a, b, got, fault, want)
			}
		}
	}
}

func TestFloorIsExact(t *testing.T) {
	for _, f := range fractions() {
		r := exact(f)
		want := new(big.Int).Div(r.Num(), r.Denom()) // Euclidean: rounded down, as the denominator is above 0
		if got, fault := frac.Floor(f); fault != fine || int64(got) != want.Int64() {
			t.Fatalf("Floor(%v) = %d %v, want %v", f, got, fault, want)
		}
	}
}
