package row_test

import (
	"math/big"
	"math/rand"
	"slices"
	"testing"

	"umpirage/api"
	"umpirage/row"
)

// These tests compare package row with the exact rational arithmetic of math/big.

// exactSum is the sum of r at a point.
func exactSum(r api.Row, nums []api.Frac) *big.Rat {
	sum := new(big.Rat)
	for i, c := range r.Of {
		f := big.NewRat(int64(nums[i].Num), int64(nums[i].Den))
		sum.Add(sum, f.Mul(f, big.NewRat(int64(c), 1)))
	}
	return sum
}

// exactHolds tells whether r holds where its sum is that.
func exactHolds(r api.Row, sum *big.Rat) bool {
	beyond := sum.Cmp(big.NewRat(int64(r.To), 1))
	return map[int]bool{most: beyond <= 0, less: beyond < 0, same: beyond == 0}[r.Kind]
}

// compare holds Value, and Holds for every kind, against the exact sum; it tells whether the sum is representable.
func compare(t *testing.T, r api.Row, nums []api.Frac) bool {
	t.Helper()
	sum := exactSum(r, nums)
	limit := big.NewInt(api.MaxNum)
	representable := sum.Num().CmpAbs(limit) <= 0 && sum.Denom().Cmp(limit) <= 0
	want, wantNot := api.Frac{}, fault(api.ErrMuch, 0)
	if representable {
		want, wantNot = api.Frac{Num: int(sum.Num().Int64()), Den: int(sum.Denom().Int64())}, fine
	}
	if got, not := row.Value(r, nums); got != want || not != wantNot {
		t.Fatalf("Value(%v, %v) = %v %v, want %v", r, nums, got, not, sum)
	}
	for _, kind := range []int{most, less, same} {
		r.Kind = kind
		if got, not := row.Holds(r, nums); got != exactHolds(r, sum) || not != fine {
			t.Fatalf("Holds(%v, %v) = %v %v, where the sum is %v", r, nums, got, not, sum)
		}
	}
	return representable
}

// fraction is a valid one: small, or with parts up to the limits.
func fraction(r *rand.Rand) api.Frac {
	limit := []int64{3, 12, 1000, 1 << 15, api.MaxNum}[r.Intn(5)]
	f := big.NewRat(r.Int63n(2*limit+1)-limit, 1+r.Int63n(limit))
	return api.Frac{Num: int(f.Num().Int64()), Den: int(f.Denom().Int64())}
}

// coefficient is from -limit to limit.
func coefficient(r *rand.Rand, limit int) int { return r.Intn(2*limit+1) - limit }

func randomRow(r *rand.Rand, most int) api.Row {
	out := api.Row{Kind: 1 + r.Intn(3)}
	limit := []int{1, 6, 60, api.MaxWhole}[r.Intn(4)]
	for range r.Intn(most + 1) {
		out.Of = append(out.Of, coefficient(r, limit)*r.Intn(2))
	}
	out.To = coefficient(r, []int{2, 60, api.MaxWhole}[r.Intn(3)])
	return out
}

func TestSumsAreExact(t *testing.T) {
	source := rand.New(rand.NewSource(1))
	count := map[bool]int{}
	for range 30000 {
		var nums []api.Frac
		for range source.Intn(api.MaxNums + 1) {
			nums = append(nums, fraction(source))
		}
		r := randomRow(source, len(nums))
		count[compare(t, r, nums)]++
		if floor := exactFloor(exactSum(r, nums)); floor >= -api.MaxWhole && floor <= api.MaxWhole {
			r.To = int(floor)
			compare(t, r, nums)
		}
	}
	if count[true] < 1000 || count[false] < 1000 {
		t.Errorf("too few sums of a kind: %v", count)
	}
}

// exactFloor is the sum rounded down, or a number above MaxWhole if it has more than 63 bits.
func exactFloor(sum *big.Rat) int64 {
	floor := new(big.Int).Div(sum.Num(), sum.Denom())
	if !floor.IsInt64() {
		return api.MaxWhole + 1
	}
	return floor.Int64()
}

// TestSumsThatCancel has fractions with a large common denominator, all of which fall away but for a last one.
func TestSumsThatCancel(t *testing.T) {
	source := rand.New(rand.NewSource(2))
	for range 5000 {
		r := api.Row{Kind: most, To: coefficient(source, api.MaxWhole)}
		var nums []api.Frac
		for range source.Intn(api.MaxNums / 2) {
			f, c := fraction(source), coefficient(source, api.MaxWhole)
			r.Of, nums = append(r.Of, c, -c), append(nums, f, f)
		}
		r.Of, nums = append(r.Of, 1-2*source.Intn(2)), append(nums, fraction(source))
		source.Shuffle(len(nums), func(i, j int) {
			r.Of[i], r.Of[j] = r.Of[j], r.Of[i]
			nums[i], nums[j] = nums[j], nums[i]
		})
		if !compare(t, r, nums) {
			t.Fatalf("the sum of %v at %v is representable", r, nums)
		}
	}
}

// TestSumsCloseToWholeNumbers has sums that miss a whole number by 1/D, where D is a product of up to twelve denominators.
func TestSumsCloseToWholeNumbers(t *testing.T) {
	source := rand.New(rand.NewSource(3))
	for range 300 {
		nums := closeTo(source, 1+source.Intn(api.MaxNums))
		for _, sign := range []int{1, -1} {
			r := of(most, 0, slices.Repeat([]int{sign}, len(nums))...)
			floor := exactFloor(exactSum(r, nums))
			for more := -1; more <= 2; more++ {
				r.To = int(floor) + more
				compare(t, r, nums)
			}
		}
	}
}

// closeTo has n fractions whose sum is 1/D more than a whole number, where D is the product of their denominators.
func closeTo(source *rand.Rand, n int) []api.Frac {
	product := big.NewInt(1)
	var dens []*big.Int
	for den := int64(api.MaxNum - source.Intn(1000)); len(dens) < n; den-- {
		d := big.NewInt(den)
		if new(big.Int).GCD(nil, nil, product, d).Cmp(big.NewInt(1)) == 0 {
			dens = append(dens, d)
			product.Mul(product, d)
		}
	}
	var nums []api.Frac
	for _, d := range dens {
		others := new(big.Int).Div(product, d)
		nums = append(nums, api.Frac{Num: int(others.ModInverse(others, d).Int64()), Den: int(d.Int64())})
	}
	return nums
}

// wholePoint is of numbers from -4 to 4, one for each coefficient of r.
func wholePoint(source *rand.Rand, r api.Row) []api.Frac {
	var nums []api.Frac
	for range r.Of {
		nums = append(nums, api.Frac{Num: coefficient(source, 4), Den: 1})
	}
	return nums
}

// near is r with a To that differs by at most 2 from its sum at a point, if such a To is valid.
func near(source *rand.Rand, r api.Row, nums []api.Frac) api.Row {
	if to := exactFloor(exactSum(r, nums)) + int64(coefficient(source, 2)); to >= -whole && to <= whole {
		r.To = int(to)
	}
	return r
}

// agree tells whether two rows both hold at a point, or both do not.
func agree(a, b api.Row, nums []api.Frac) bool {
	return exactHolds(a, exactSum(a, nums)) == exactHolds(b, exactSum(b, nums))
}

// again wants that f leaves what it has returned as it is.
func again(t *testing.T, f change, r api.Row) {
	t.Helper()
	if got, not := f(r); !equal(got, r) || not != fine {
		t.Fatalf("%v, once more, is %v %v", r, got, not)
	}
}

func TestTidyHoldsAtTheSamePoints(t *testing.T) {
	source := rand.New(rand.NewSource(4))
	for range 20000 {
		r := randomRow(source, api.MaxNums)
		nums := wholePoint(source, r)
		if source.Intn(2) > 0 {
			for i := range nums {
				nums[i] = fraction(source)
			}
		}
		r = near(source, r, nums)
		tidy, not := row.Tidy(r)
		if not != fine || tidy.Kind != r.Kind || !agree(r, tidy, nums) {
			t.Fatalf("%v and its tidy %v (%v) differ at %v", r, tidy, not, nums)
		}
		again(t, row.Tidy, tidy)
	}
}

func TestWholeHoldsAtTheSameWholePoints(t *testing.T) {
	source := rand.New(rand.NewSource(5))
	for range 20000 {
		r := randomRow(source, api.MaxNums)
		nums := wholePoint(source, r)
		r = near(source, r, nums)
		isWhole, not := row.Whole(r)
		if not != fine || !agree(r, isWhole, nums) {
			t.Fatalf("%v and its whole %v (%v) differ at %v", r, isWhole, not, nums)
		}
		again(t, row.Whole, isWhole)
	}
}

func TestNotHoldsAtTheOtherPoints(t *testing.T) {
	source := rand.New(rand.NewSource(6))
	for range 20000 {
		r := randomRow(source, api.MaxNums)
		if r.Kind == same {
			continue
		}
		nums := wholePoint(source, r)
		r = near(source, r, nums)
		other, not := row.Not(r)
		if not != fine || agree(r, other, nums) {
			t.Fatalf("%v and its negation %v (%v) agree at %v", r, other, not, nums)
		}
		if twice, not := row.Not(other); !equal(twice, r) || not != fine {
			t.Fatalf("%v, negated twice, is %v %v", r, twice, not)
		}
	}
}
