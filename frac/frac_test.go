package frac_test

import (
	"math"
	"testing"

	"umpirage/api"
	"umpirage/frac"
)

const top = api.MaxNum

var (
	fine = api.Fault{}
	none = api.Fault{Code: api.ErrNone}
	much = api.Fault{Code: api.ErrMuch}
)

func of(num, den int) api.Frac { return api.Frac{Num: num, Den: den} }

func rangeAt(i int) api.Fault { return api.Fault{Code: api.ErrRange, At: i} }

// binary is an operation of two fractions that returns a fraction.
type binary func(a, b api.Frac) (api.Frac, api.Fault)

type binaryCase struct {
	a, b, want api.Frac
	fault      api.Fault
}

func runBinary(t *testing.T, op binary, cases []binaryCase) {
	t.Helper()
	for _, c := range cases {
		for range 2 { // no state is kept from the first call to the second one
			if got, fault := op(c.a, c.b); got != c.want || fault != c.fault {
				t.Errorf("%v, %v: got %v %v, want %v %v", c.a, c.b, got, fault, c.want, c.fault)
			}
		}
	}
}

// invalid are fractions of which each breaks a bound, or is not in lowest terms.
var invalid = []api.Frac{
	of(0, 0), of(1, 0), of(-1, 0), of(1, -1), of(-1, -2), of(0, -1),
	of(2, 4), of(-2, 4), of(3, 3), of(0, 2), of(0, top), of(top, top), of(top, 2), of(2, top), of(-top, top-2),
	of(top+1, 1), of(-top-1, 1), of(1, top+1), of(0, top+1), of(top+1, top),
	of(math.MaxInt, 1), of(math.MinInt, 1), of(1, math.MaxInt), of(1, math.MinInt), of(0, math.MinInt),
	of(math.MinInt, math.MinInt), of(math.MinInt, math.MaxInt), of(math.MinInt, 0), of(math.MinInt, -1),
}

// R1.1
func TestCheck(t *testing.T) {
	for _, f := range []api.Frac{
		of(0, 1), of(1, 1), of(-1, 1), of(1, 2), of(-7, 2), of(5, 6),
		of(top, 1), of(-top, 1), of(1, top), of(-1, top),
		of(top, top-1), of(-top, top-1), of(top-1, top), of(1-top, top),
	} {
		if fault := frac.Check(f); fault != fine {
			t.Errorf("Check(%v) = %v", f, fault)
		}
	}
	for _, f := range invalid {
		if fault := frac.Check(f); fault != rangeAt(0) {
			t.Errorf("Check(%v) = %v", f, fault)
		}
	}
}

// R1.2
func TestMake(t *testing.T) {
	const most, least = math.MaxInt, math.MinInt
	for _, c := range []struct {
		num, den int
		want     api.Frac
		fault    api.Fault
	}{
		{6, -4, of(-3, 2), fine},
		{6, 4, of(3, 2), fine},
		{-6, 4, of(-3, 2), fine},
		{-6, -4, of(3, 2), fine},
		{0, 5, of(0, 1), fine},
		{0, -5, of(0, 1), fine},
		{0, least, of(0, 1), fine},
		{0, most, of(0, 1), fine},
		{0, 0, of(0, 0), none},
		{1, 0, of(0, 0), none},
		{least, 0, of(0, 0), none},
		{top + 1, 0, of(0, 0), none},
		{top, 1, of(top, 1), fine},
		{top, -1, of(-top, 1), fine},
		{-top, -1, of(top, 1), fine},
		{1, -top, of(-1, top), fine},
		{top - 1, top, of(top-1, top), fine},
		{2 * top, 2, of(top, 1), fine},
		{2, -2 * top, of(-1, top), fine},
		{top + 1, 1, of(0, 0), much},
		{-top - 1, 1, of(0, 0), much},
		{1, top + 1, of(0, 0), much},
		{1, -top - 1, of(0, 0), much},
		{top + 1, top + 1, of(1, 1), fine},
		{top + 1, top, of(0, 0), much},
		{most, most, of(1, 1), fine},
		{least, least, of(1, 1), fine},
		{least, most, of(0, 0), much},
		{most, least, of(0, 0), much},
		{least, 1, of(0, 0), much},
		{least, -1, of(0, 0), much},
		{1, least, of(0, 0), much},
		{-1, least, of(0, 0), much},
		{most, 1, of(0, 0), much},
		{1, most, of(0, 0), much},
		{least, 1 << 33, of(-top, 1), fine},
		{least, -1 << 33, of(top, 1), fine},
		{least, 1 << 32, of(0, 0), much},
		{1 << 33, least, of(-1, top), fine},
		{-1 << 33, least, of(1, top), fine},
		{-1 << 32, least, of(0, 0), much},
		{least, -1 << 62, of(2, 1), fine},
		{most, -most, of(-1, 1), fine},
	} {
		if got, fault := frac.Make(c.num, c.den); got != c.want || fault != c.fault {
			t.Errorf("Make(%d, %d) = %v %v, want %v %v", c.num, c.den, got, fault, c.want, c.fault)
		}
	}
}

// R1.3
func TestAdd(t *testing.T) {
	runBinary(t, frac.Add, []binaryCase{
		{of(1, 2), of(1, 3), of(5, 6), fine},
		{of(1, 2), of(1, 2), of(1, 1), fine},
		{of(1, 2), of(-1, 2), of(0, 1), fine},
		{of(0, 1), of(-7, 3), of(-7, 3), fine},
		{of(top-1, 1), of(1, 1), of(top, 1), fine},
		{of(top, 1), of(1, 1), of(0, 0), much},
		{of(1-top, 1), of(-1, 1), of(-top, 1), fine},
		{of(-top, 1), of(-1, 1), of(0, 0), much},
		{of(top, 1), of(top, 1), of(0, 0), much},
		{of(top, 1), of(-top, 1), of(0, 1), fine},
		{of(top, 1), of(1, top), of(0, 0), much},
		{of(1, top), of(1, top), of(1, top/2), fine},
		{of(1, top), of(1, top-1), of(0, 0), much},
		{of(-1, top), of(1, top), of(0, 1), fine},
		{of(-top, top-1), of(-top, top-1), of(0, 0), much},
	})
}

// R1.4
func TestSub(t *testing.T) {
	runBinary(t, frac.Sub, []binaryCase{
		{of(1, 2), of(1, 3), of(1, 6), fine},
		{of(1, 3), of(1, 2), of(-1, 6), fine},
		{of(5, 7), of(5, 7), of(0, 1), fine},
		{of(0, 1), of(5, 7), of(-5, 7), fine},
		{of(top, 1), of(top, 1), of(0, 1), fine},
		{of(top, 1), of(1, 1), of(top-1, 1), fine},
		{of(top, 1), of(-1, 1), of(0, 0), much},
		{of(-top, 1), of(1, 1), of(0, 0), much},
		{of(0, 1), of(-top, 1), of(top, 1), fine},
		{of(-top, 1), of(top, 1), of(0, 0), much},
		{of(1, top), of(-1, top), of(1, top/2), fine},
		{of(1, top-1), of(1, top), of(0, 0), much},
	})
}

// R1.5
func TestTimes(t *testing.T) {
	runBinary(t, frac.Times, []binaryCase{
		{of(2, 3), of(3, 4), of(1, 2), fine},
		{of(-2, 3), of(3, 4), of(-1, 2), fine},
		{of(-2, 3), of(-3, 4), of(1, 2), fine},
		{of(0, 1), of(-top, top-1), of(0, 1), fine},
		{of(top, 1), of(1, top), of(1, 1), fine},
		{of(-top, 1), of(-1, top), of(1, 1), fine},
		{of(top, top-1), of(1-top, top), of(-1, 1), fine},
		{of(1<<15, 1), of(1<<15, 1), of(top, 1), fine},
		{of(1, 1<<15), of(-1, 1<<15), of(-1, top), fine},
		{of(1<<15, 1), of(1<<16, 1), of(0, 0), much},
		{of(1, 1<<15), of(1, 1<<16), of(0, 0), much},
		{of(top, 1), of(-top, 1), of(0, 0), much},
		{of(1, top), of(1, top), of(0, 0), much},
	})
}

// R1.6
func TestOver(t *testing.T) {
	runBinary(t, frac.Over, []binaryCase{
		{of(1, 2), of(1, 4), of(2, 1), fine},
		{of(-1, 2), of(1, 4), of(-2, 1), fine},
		{of(1, 2), of(-1, 4), of(-2, 1), fine},
		{of(-1, 2), of(-1, 4), of(2, 1), fine},
		{of(0, 1), of(-5, 7), of(0, 1), fine},
		{of(1, 2), of(0, 1), of(0, 0), none},
		{of(0, 1), of(0, 1), of(0, 0), none},
		{of(top, 1), of(0, 1), of(0, 0), none},
		{of(top, 1), of(top, 1), of(1, 1), fine},
		{of(1, 1), of(1, top), of(top, 1), fine},
		{of(1, 1), of(-top, 1), of(-1, top), fine},
		{of(top, 1), of(1, 2), of(0, 0), much},
		{of(1, top), of(2, 1), of(0, 0), much},
		{of(top, 1), of(-1, top), of(0, 0), much},
		{of(1, 2), of(0, 2), of(0, 0), rangeAt(1)},
		{of(1, 2), of(0, 0), of(0, 0), rangeAt(1)},
		{of(2, 4), of(0, 1), of(0, 0), rangeAt(0)},
	})
}

// R1.7
func TestLess(t *testing.T) {
	for _, c := range []struct {
		a, b api.Frac
		want bool
	}{
		{of(1, 3), of(1, 2), true},
		{of(1, 2), of(1, 3), false},
		{of(1, 2), of(1, 2), false},
		{of(-1, 2), of(-1, 3), true},
		{of(-1, 3), of(-1, 2), false},
		{of(-1, 2), of(0, 1), true},
		{of(0, 1), of(-1, 2), false},
		{of(2, 1), of(3, 2), false},
		{of(-top, 1), of(top, 1), true},
		{of(top, 1), of(-top, 1), false},
		{of(0, 1), of(1, top), true},
		{of(-1, top), of(0, 1), true},
		{of(top-2, top-1), of(top-1, top), true},
		{of(top-1, top), of(top-2, top-1), false},
		{of(top, top-1), of(top-1, top-2), true},
		{of(1, top), of(1, top-1), true},
		{of(1, top-1), of(1, top), false},
	} {
		if got, fault := frac.Less(c.a, c.b); got != c.want || fault != fine {
			t.Errorf("Less(%v, %v) = %v %v, want %v", c.a, c.b, got, fault, c.want)
		}
	}
}

// R1.8
func TestFloor(t *testing.T) {
	for _, c := range []struct {
		f    api.Frac
		want int
	}{
		{of(-7, 2), -4},
		{of(7, 2), 3},
		{of(0, 1), 0},
		{of(1, 2), 0},
		{of(-1, 2), -1},
		{of(3, 1), 3},
		{of(-3, 1), -3},
		{of(top, 1), top},
		{of(-top, 1), -top},
		{of(1, top), 0},
		{of(-1, top), -1},
		{of(top-1, top), 0},
		{of(1-top, top), -1},
		{of(top, top-1), 1},
		{of(-top, top-1), -2},
	} {
		if got, fault := frac.Floor(c.f); got != c.want || fault != fine {
			t.Errorf("Floor(%v) = %d %v, want %d", c.f, got, fault, c.want)
		}
	}
	for _, f := range invalid {
		if got, fault := frac.Floor(f); got != 0 || fault != rangeAt(0) {
			t.Errorf("Floor(%v) = %d %v", f, got, fault)
		}
	}
}

// The faults of R1.3 to R1.7 for operands that are not valid: the first such operand counts, and no result is given.
func TestInvalidOperands(t *testing.T) {
	good := []api.Frac{of(0, 1), of(1, 1), of(-3, 2), of(top, 1), of(-1, top)}
	for name, op := range operations() {
		expect := func(a, b api.Frac, want api.Fault) {
			t.Helper()
			if got, fault := op(a, b); got != (api.Frac{}) || fault != want {
				t.Errorf("%s(%v, %v) = %v %v, want %v", name, a, b, got, fault, want)
			}
		}
		for _, bad := range invalid {
			for _, f := range good {
				expect(bad, f, rangeAt(0))
				expect(f, bad, rangeAt(1))
			}
			for _, other := range invalid {
				expect(bad, other, rangeAt(0))
			}
		}
	}
}

// operations are the operations of two fractions; of Less, true is 1/1 and false is 0/0.
func operations() map[string]binary {
	return map[string]binary{
		"Add": frac.Add, "Sub": frac.Sub, "Times": frac.Times, "Over": frac.Over,
		"Less": func(a, b api.Frac) (api.Frac, api.Fault) {
			less, fault := frac.Less(a, b)
			if less {
				return of(1, 1), fault
			}
			return api.Frac{}, fault
		},
	}
}
