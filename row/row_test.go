package row_test

import (
	"math"
	"slices"
	"testing"

	"umpirage/api"
	"umpirage/row"
)

const (
	most = api.RowMost
	less = api.RowLess
	same = api.RowSame

	whole = api.MaxWhole
	top   = api.MaxNum
)

var fine = api.Fault{}

func fault(code, at int) api.Fault { return api.Fault{Code: code, At: at} }

func of(kind, to int, coefficients ...int) api.Row {
	return api.Row{Of: coefficients, Kind: kind, To: to}
}

// point is of numerators and denominators in turn.
func point(parts ...int) []api.Frac {
	var l []api.Frac
	for i := 0; i < len(parts); i += 2 {
		l = append(l, api.Frac{Num: parts[i], Den: parts[i+1]})
	}
	return l
}

func equal(a, b api.Row) bool {
	return slices.Equal(a.Of, b.Of) && a.Kind == b.Kind && a.To == b.To
}

// ones has n coefficients 1.
func ones(n int) []int { return slices.Repeat([]int{1}, n) }

// with is ones, with c in the place i.
func with(n, i, c int) []int {
	l := ones(n)
	l[i] = c
	return l
}

// notInRange are the numbers that may not stand in a row.
var notInRange = []int{whole + 1, -whole - 1, math.MaxInt, math.MinInt}

// R2.1
func TestCheckTakesValidRows(t *testing.T) {
	for _, c := range []struct {
		r api.Row
		n int
	}{
		{of(most, 0), 0},
		{of(most, 0), 1},
		{of(less, 1, 2), 1},
		{of(same, -1, 2), api.MaxNums},
		{of(same, 0, 0, 0), 2},
		{of(most, whole, whole, -whole), 2},
		{of(less, -whole, -whole, whole), 3},
		{of(same, 3, ones(api.MaxNums)...), api.MaxNums},
		{of(most, 3, with(api.MaxNums, 11, -whole)...), api.MaxNums},
	} {
		if got := row.Check(c.r, c.n); got != fine {
			t.Errorf("Check(%v, %d) = %v", c.r, c.n, got)
		}
	}
}

// faulty are rows over so many numbers, with what Check says of them; most have more than one fault.
var faulty = []struct {
	r    api.Row
	n    int
	want api.Fault
}{
	{of(most, 0, 1, 1), 1, fault(api.ErrSize, 0)},
	{of(most, 0, 1), 0, fault(api.ErrSize, 0)},
	{of(most, 0, 1, 0), 1, fault(api.ErrSize, 0)}, // a trailing 0 counts
	{of(most, 0, ones(13)...), api.MaxNums, fault(api.ErrSize, 0)},
	{of(most, 0), -1, fault(api.ErrRange, -1)},
	{of(most, 0), api.MaxNums + 1, fault(api.ErrRange, -1)},
	{of(most, 0), math.MinInt, fault(api.ErrRange, -1)},
	{of(most, 0), math.MaxInt, fault(api.ErrRange, -1)},
	{of(0, 0), 0, fault(api.ErrKind, 0)},
	{of(4, 0, 1), 1, fault(api.ErrKind, 0)},
	{of(-1, 0, 1), 1, fault(api.ErrKind, 0)},
	{of(math.MinInt, 0, 1), 1, fault(api.ErrKind, 0)},
	{of(math.MaxInt, 0, 1), 1, fault(api.ErrKind, 0)},
	{of(most, 0, whole+1), 1, fault(api.ErrRange, 0)},
	{of(less, 0, 1, -whole-1), 2, fault(api.ErrRange, 1)},
	{of(same, 0, with(12, 11, whole+1)...), 12, fault(api.ErrRange, 11)},
	{of(most, whole+1), 0, fault(api.ErrRange, 0)},
	{of(most, -whole-1, 1, 2), 2, fault(api.ErrRange, 2)},
	{of(most, whole+1, 1, 2), 5, fault(api.ErrRange, 2)},
	{of(same, whole+1, ones(12)...), 12, fault(api.ErrRange, 12)},

	{of(0, whole+1, whole+1, 1), -1, fault(api.ErrRange, -1)},
	{of(9, whole+1, ones(20)...), 13, fault(api.ErrRange, -1)},
	{of(0, whole+1, whole+1, 1), 1, fault(api.ErrKind, 0)},
	{of(less, whole+1, whole+1, 1), 1, fault(api.ErrSize, 0)},
	{of(less, -whole-1, 1, whole+1, -whole-1), 3, fault(api.ErrRange, 1)},
	{of(less, whole+1, 1, 1, -whole-1), 3, fault(api.ErrRange, 2)},
}

func TestCheckFaults(t *testing.T) {
	for _, c := range faulty {
		if got := row.Check(c.r, c.n); got != c.want {
			t.Errorf("Check(%v, %d) = %v, want %v", c.r, c.n, got, c.want)
		}
	}
	for _, bad := range notInRange {
		for i := range 12 {
			if got := row.Check(of(less, bad, with(12, i, bad)...), 12); got != fault(api.ErrRange, i) {
				t.Errorf("coefficient %d is %d: %v", i, bad, got)
			}
			if got := row.Check(of(same, bad, ones(i)...), 12); got != fault(api.ErrRange, i) {
				t.Errorf("behind %d coefficients To is %d: %v", i, bad, got)
			}
		}
	}
}

// R2.1, of lists of rows
func TestCheckAll(t *testing.T) {
	good, kind, size, ranges := of(most, 1, 1), of(7, 1, 1), of(most, 1, 1, 1), of(less, 1, whole+1)
	full := slices.Repeat([]api.Row{good}, api.MaxRows)
	for _, c := range []struct {
		l    []api.Row
		n    int
		want api.Fault
	}{
		{nil, 0, fine},
		{nil, api.MaxNums, fine},
		{[]api.Row{good}, 1, fine},
		{full, 1, fine},
		{append(full[:len(full):len(full)], good), 1, fault(api.ErrMany, 0)},
		{append(full[:len(full):len(full)], kind), 1, fault(api.ErrMany, 0)},
		{append(full[1:len(full):len(full)], kind), 1, fault(api.ErrKind, api.MaxRows-1)},
		{nil, -1, fault(api.ErrRange, -1)},
		{nil, api.MaxNums + 1, fault(api.ErrRange, -1)},
		{[]api.Row{kind}, -1, fault(api.ErrRange, -1)},
		{append(full[:len(full):len(full)], good), 13, fault(api.ErrRange, -1)},
		{[]api.Row{kind, size}, 1, fault(api.ErrKind, 0)},
		{[]api.Row{good, size, kind}, 1, fault(api.ErrSize, 1)},
		{[]api.Row{good, good, ranges}, 1, fault(api.ErrRange, 2)},
		{[]api.Row{good, good, of(most, whole+1, 1)}, 1, fault(api.ErrRange, 2)},
	} {
		if got := row.CheckAll(c.l, c.n); got != c.want {
			t.Errorf("CheckAll(%v, %d) = %v, want %v", c.l, c.n, got, c.want)
		}
	}
}

// R2.2
func TestValue(t *testing.T) {
	much := fault(api.ErrMuch, 0)
	for _, c := range []struct {
		r    api.Row
		nums []api.Frac
		want api.Frac
		not  api.Fault
	}{
		{of(most, 0, 2, -1), point(1, 2, 3, 1), api.Frac{Num: -2, Den: 1}, fine},
		{of(less, 7, 2, -1), point(1, 2, 3, 1), api.Frac{Num: -2, Den: 1}, fine},
		{of(same, -whole, 2, -1), point(1, 2, 3, 1), api.Frac{Num: -2, Den: 1}, fine},
		{of(most, 5), nil, api.Frac{Num: 0, Den: 1}, fine},
		{of(most, 5), point(1, 2), api.Frac{Num: 0, Den: 1}, fine},
		{of(most, 5, 0, 0), point(1, 2, top, 1), api.Frac{Num: 0, Den: 1}, fine},
		{of(most, 5, 1), point(1, 2, 1, 3), api.Frac{Num: 1, Den: 2}, fine},
		{of(most, 5, 1, 1), point(1, 2, 1, 3), api.Frac{Num: 5, Den: 6}, fine},
		{of(most, 5, 3, 2), point(1, 2, -3, 4), api.Frac{Num: 0, Den: 1}, fine},
		{of(most, 5, 1, 1), point(1, 6, 1, 3), api.Frac{Num: 1, Den: 2}, fine},
		{of(most, 5, 1, 1, 1), point(1, 12, 1, 4, 1, 6), api.Frac{Num: 1, Den: 2}, fine},
		{of(most, 5, -1), point(-1, 2), api.Frac{Num: 1, Den: 2}, fine},

		{of(most, 0, 1), point(top, 1), api.Frac{Num: top, Den: 1}, fine},
		{of(most, 0, -1), point(top, 1), api.Frac{Num: -top, Den: 1}, fine},
		{of(most, 0, 1, 1), point(top-1, 1, 1, 1), api.Frac{Num: top, Den: 1}, fine},
		{of(most, 0, 1, 1), point(top, 1, 1, 1), api.Frac{}, much},
		{of(most, 0, 1, -1), point(-top, 1, 1, 1), api.Frac{}, much},
		{of(most, 0, 1, -1), point(top, 1, 1, 1), api.Frac{Num: top - 1, Den: 1}, fine},
		{of(most, 0, 4), point(top, 1), api.Frac{}, much}, // 1<<32
		{of(most, 0, 5), point(top, 1), api.Frac{}, much},
		{of(most, 0, whole), point(top, 1), api.Frac{}, much},
		{of(most, 0, 2), point(1, top), api.Frac{Num: 1, Den: top / 2}, fine},
		{of(most, 0, 1, 1), point(1, top, 1, top-1), api.Frac{}, much},
		{of(most, 0, 1, 1), point(1, 1<<15, 1, 1<<15-1), api.Frac{Num: 1<<16 - 1, Den: 1<<30 - 1<<15}, fine},
		{of(most, 0, 1, 1), point(1, 1<<15+1, 1, 1<<15), api.Frac{}, much},
		{of(most, 0, whole, -whole), point(top, 1, top, 1), api.Frac{Num: 0, Den: 1}, fine},
		{of(most, 0, whole, 1, -whole), point(top, 1, 5, 7, top, 1), api.Frac{Num: 5, Den: 7}, fine},
		{of(most, 0, 1, 1, 1, -1), point(1, top, 1, top-1, 1, 2, 1, top), api.Frac{}, much},
		{of(most, 0, 1, 1, 1, -1, -1), point(1, top, 1, top-1, 2, 3, 1, top, 1, top-1), api.Frac{Num: 2, Den: 3}, fine},
	} {
		for range 2 { // no state is kept from the first call to the second one
			got, not := row.Value(c.r, c.nums)
			if got != c.want || not != c.not {
				t.Errorf("Value(%v, %v) = %v %v, want %v %v", c.r, c.nums, got, not, c.want, c.not)
			}
		}
	}
}

// R2.3
func TestHolds(t *testing.T) {
	for _, c := range []struct {
		of              []int
		to              int
		nums            []api.Frac
		most, less, are bool
	}{
		{[]int{2}, 1, point(1, 2), true, false, true},
		{[]int{2}, 1, point(1, 3), true, true, false},
		{[]int{2}, 1, point(2, 3), false, false, false},
		{[]int{2, -1}, -2, point(1, 2, 3, 1), true, false, true},
		{[]int{2, -1}, -3, point(1, 2, 3, 1), false, false, false},
		{[]int{2, -1}, -1, point(1, 2, 3, 1), true, true, false},
		{nil, 0, nil, true, false, true},
		{nil, 1, point(1, 2), true, true, false},
		{nil, -1, point(1, 2), false, false, false},
		{[]int{1}, 0, point(1, 2, 5, 1), false, false, false},
		{[]int{1}, 0, point(0, 1, 5, 1), true, false, true},
		{[]int{1}, 0, point(1, top), false, false, false},
		{[]int{1}, 0, point(-1, top), true, true, false},
		// sums that are not representable
		{[]int{1, 1}, 1, point(top-1, top, 1, top-1), false, false, false},
		{[]int{1, 1}, 1, point(top-2, top-1, 1, top), true, true, false},
		{[]int{whole, whole}, whole, point(top, 1, top, 1), false, false, false},
		{[]int{whole, whole}, -whole, point(-top, 1, -top, 1), true, true, false},
		{[]int{-whole, whole}, whole, point(top, 1, top, 1), true, true, false},
		{[]int{1, 1, 1, -1, -1}, 2, point(1, top, 1, top-1, 2, 1, 1, top, 1, top-1), true, false, true},
	} {
		for kind, want := range map[int]bool{most: c.most, less: c.less, same: c.are} {
			if got, not := row.Holds(of(kind, c.to, c.of...), c.nums); got != want || not != fine {
				t.Errorf("Holds(%v, %v) = %v %v, want %v", of(kind, c.to, c.of...), c.nums, got, not, want)
			}
		}
	}
}

// The faults of R2.2 and R2.3 are the same, but for sums that are not representable.
func TestFaultsAtPoints(t *testing.T) {
	manyNums := slices.Repeat(point(1, 1), api.MaxNums+1)
	big := []int{whole, whole}
	for _, c := range []struct {
		r    api.Row
		nums []api.Frac
		want api.Fault
	}{
		{of(most, 0, 1), manyNums, fault(api.ErrRange, -1)},
		{of(8, 0, 1), manyNums, fault(api.ErrRange, -1)},
		{of(8, whole+1, 1, 1), point(2, 4), fault(api.ErrKind, 0)},
		{of(most, whole+1, 1, 1), point(2, 4), fault(api.ErrSize, 0)},
		{of(most, 0, 1), nil, fault(api.ErrSize, 0)},
		{of(most, whole+1, 1, whole+1), point(1, 2, 0, 0), fault(api.ErrRange, 1)},
		{of(most, whole+1, 1, 1), point(1, 2, 0, 0), fault(api.ErrRange, 2)},
		{of(most, whole+1, 1), point(1, 2, 0, 0), fault(api.ErrRange, 1)},
		{of(most, 0, 1, 1), point(2, 4, 0, 0), fault(api.ErrForm, 0)},
		{of(most, 0, 1, 1), point(1, 4, 0, 0), fault(api.ErrForm, 1)},
		{of(most, 0, 1), point(1, 4, 1, 2, 2, 2), fault(api.ErrForm, 2)}, // also where no coefficient stands
		{of(most, 0, 0), point(top+1, 1), fault(api.ErrForm, 0)},
		{of(most, 0), point(1, -1), fault(api.ErrForm, 0)},
		{of(most, 0, big...), point(top, 1, top, 1, 1, 0), fault(api.ErrForm, 2)}, // ahead of ErrMuch
		{of(most, 0, big...), point(math.MinInt, math.MinInt, top, 1), fault(api.ErrForm, 0)},
	} {
		if got, not := row.Value(c.r, c.nums); got != (api.Frac{}) || not != c.want {
			t.Errorf("Value(%v, %v) = %v %v, want %v", c.r, c.nums, got, not, c.want)
		}
		if got, not := row.Holds(c.r, c.nums); got || not != c.want {
			t.Errorf("Holds(%v, %v) = %v %v, want %v", c.r, c.nums, got, not, c.want)
		}
	}
	for _, c := range faulty {
		if c.n < 0 || c.n > 100 { // no list is so long
			continue
		}
		nums := slices.Repeat(point(2, 4), c.n)
		if got, not := row.Value(c.r, nums); got != (api.Frac{}) || not != c.want {
			t.Errorf("Value(%v, %d numbers) = %v %v, want %v", c.r, c.n, got, not, c.want)
		}
		if got, not := row.Holds(c.r, nums); got || not != c.want {
			t.Errorf("Holds(%v, %d numbers) = %v %v, want %v", c.r, c.n, got, not, c.want)
		}
	}
}

// change is a function from rows to rows.
type change func(api.Row) (api.Row, api.Fault)

type changeCase struct{ r, want api.Row }

func runChange(t *testing.T, name string, f change, cases []changeCase) {
	t.Helper()
	for _, c := range cases {
		for range 2 { // no state is kept from the first call to the second one
			if got, not := f(c.r); !equal(got, c.want) || not != fine {
				t.Errorf("%s(%v) = %v %v, want %v", name, c.r, got, not, c.want)
			}
		}
	}
}

// R2.4
func TestTidy(t *testing.T) {
	runChange(t, "Tidy", row.Tidy, []changeCase{
		{of(same, 10, -4, 6), of(same, -5, 2, -3)},
		{of(same, 10, 4, -6), of(same, 5, 2, -3)},
		{of(most, 10, -4, 6), of(most, 5, -2, 3)},
		{of(less, -10, -4, 6), of(less, -5, -2, 3)},
		{of(most, 9, -4, 6), of(most, 9, -4, 6)},
		{of(same, 9, -4, 6), of(same, -9, 4, -6)},
		{of(most, 0, -4, 6), of(most, 0, -2, 3)},
		{of(same, 0, 0, 0, -4, 6, 0), of(same, 0, 0, 0, 2, -3)},
		{of(same, 6, 0, -4, 0, 0), of(same, -3, 0, 2)},
		{of(same, -6, 0, 4, 0, -2), of(same, -3, 0, 2, 0, -1)},
		{of(less, 5, 0, 0, -5), of(less, 1, 0, 0, -1)},
		{of(less, -7, 7, 0, 0, 0), of(less, -1, 1)},
		{of(most, whole, -whole), of(most, 1, -1)},
		{of(same, -whole, -whole), of(same, 1, 1)},
		{of(same, whole-1, -whole), of(same, 1-whole, whole)},
		{of(most, -6, with(12, 11, 0)...), of(most, -6, ones(11)...)},
		{of(less, 12, slices.Repeat([]int{-6}, 12)...), of(less, 2, slices.Repeat([]int{-1}, 12)...)},

		{of(most, 0), of(most, 0)},
		{of(most, 5), of(most, 0)},
		{of(most, whole, 0), of(most, 0)},
		{of(most, -1, 0, 0), of(most, -1)},
		{of(most, -whole), of(most, -1)},
		{of(less, 0), of(less, 0)},
		{of(less, -5, 0), of(less, 0)},
		{of(less, -whole), of(less, 0)},
		{of(less, 1, 0), of(less, 1)},
		{of(less, whole, make([]int, 12)...), of(less, 1)},
		{of(same, 0, 0), of(same, 0)},
		{of(same, 5), of(same, 1)},
		{of(same, -5, 0), of(same, 1)},
	})
}

// R2.5
func TestWhole(t *testing.T) {
	runChange(t, "Whole", row.Whole, []changeCase{
		{of(less, 10, 4, -6), of(most, 4, 2, -3)},
		{of(less, 11, 4, -6), of(most, 5, 2, -3)},
		{of(less, -10, 4, -6), of(most, -6, 2, -3)},
		{of(most, 10, 4, -6), of(most, 5, 2, -3)},
		{of(most, 9, 4, -6), of(most, 4, 2, -3)},
		{of(most, -9, -4, 6), of(most, -5, -2, 3)},
		{of(most, -10, -4, 6), of(most, -5, -2, 3)},
		{of(most, 7, 0, -3, 0, 0), of(most, 2, 0, -1)},
		{of(most, 7, 3, 5, 0), of(most, 7, 3, 5)},
		{of(less, 7, 3, 5), of(most, 6, 3, 5)},
		{of(less, 0, 3), of(most, -1, 1)},
		{of(less, 1, 3), of(most, 0, 1)},
		{of(same, 10, -4, 6), of(same, -5, 2, -3)},
		{of(same, -10, 4, 6), of(same, -5, 2, 3)},
		{of(same, 0, 0, -4), of(same, 0, 0, 1)},
		{of(same, 9, -4, 6), of(same, 1)},
		{of(same, -9, 4, 6, 0), of(same, 1)},
		{of(same, 9, -3, 5), of(same, -9, 3, -5)},
		{of(same, whole, -whole), of(same, -1, 1)},
		{of(most, -whole, 1), of(most, -whole, 1)},
		{of(most, -whole, whole), of(most, -1, 1)},
		{of(less, 1-whole, 1), of(most, -whole, 1)},
		{of(less, whole, 1), of(most, whole-1, 1)},
		// To may be smaller than in a row until it is normalized
		{of(less, -whole, 2), of(most, -whole/2-1, 1)},
		{of(less, -whole, 0, -whole), of(most, -2, 0, -1)},
		{of(less, -whole), of(most, -1)},
		{of(less, -whole, 0, 0), of(most, -1)},

		{of(most, 0), of(most, 0)},
		{of(most, 7, 0), of(most, 0)},
		{of(most, -7), of(most, -1)},
		{of(less, 0, 0), of(most, -1)},
		{of(less, -3, 0), of(most, -1)},
		{of(less, 1), of(most, 0)},
		{of(less, 9, 0, 0), of(most, 0)},
		{of(same, 0, 0), of(same, 0)},
		{of(same, 2), of(same, 1)},
		{of(same, -2), of(same, 1)},
	})
	for _, r := range []api.Row{
		of(less, -whole, 1),
		of(less, -whole, -1),
		of(less, -whole, 2, 3, 0),
		of(less, -whole, 0, whole, 1-whole),
	} {
		if got, not := row.Whole(r); !equal(got, api.Row{}) || not != fault(api.ErrMuch, 0) {
			t.Errorf("Whole(%v) = %v %v", r, got, not)
		}
	}
}

// R2.6
func TestNot(t *testing.T) {
	runChange(t, "Not", row.Not, []changeCase{
		{of(most, 3, 1), of(less, -3, -1)},
		{of(less, -3, -1), of(most, 3, 1)},
		{of(most, 10, 4, -6, 0, 0), of(less, -10, -4, 6, 0, 0)},
		{of(less, 10, 0, 4, -6), of(most, -10, 0, -4, 6)},
		{of(most, 0), of(less, 0)},
		{of(less, 0), of(most, 0)},
		{of(most, 5, 0, 0), of(less, -5, 0, 0)},
		{of(less, whole, -whole, whole), of(most, -whole, whole, -whole)},
		{of(most, -1, ones(12)...), of(less, 1, slices.Repeat([]int{-1}, 12)...)},
	})
	for _, r := range []api.Row{of(same, 0), of(same, 3, 1), of(same, -whole, ones(12)...)} {
		if got, not := row.Not(r); !equal(got, api.Row{}) || not != fault(api.ErrKind, 0) {
			t.Errorf("Not(%v) = %v %v", r, got, not)
		}
	}
}

// The faults of R2.4 to R2.6 for rows that are not valid over MaxNums numbers.
func TestChangesOfInvalidRows(t *testing.T) {
	for name, f := range changes() {
		expect := func(r api.Row, want api.Fault) {
			t.Helper()
			if got, not := f(r); !equal(got, api.Row{}) || not != want {
				t.Errorf("%s(%v) = %v %v, want %v", name, r, got, not, want)
			}
		}
		expect(of(0, whole+1, with(13, 2, whole+1)...), fault(api.ErrKind, 0))
		expect(of(4, 0), fault(api.ErrKind, 0))
		expect(of(same, whole+1, with(13, 2, whole+1)...), fault(api.ErrSize, 0))
		expect(of(less, -whole, make([]int, 13)...), fault(api.ErrSize, 0))
		for _, bad := range notInRange {
			expect(of(less, bad, with(12, 2, bad)...), fault(api.ErrRange, 2))
			expect(of(same, bad, with(12, 11, bad)...), fault(api.ErrRange, 11))
			expect(of(most, bad, ones(12)...), fault(api.ErrRange, 12))
			expect(of(same, bad), fault(api.ErrRange, 0))
			expect(of(less, bad, 0), fault(api.ErrRange, 1))
		}
	}
}

func changes() map[string]change {
	return map[string]change{"Tidy": row.Tidy, "Whole": row.Whole, "Not": row.Not}
}

// P1: arguments stay as they are, and results have memory of their own.
func TestMemory(t *testing.T) {
	for name, f := range changes() {
		for _, kind := range []int{most, less, same} {
			for _, coefficients := range [][]int{{1, 2, 3}, {-4, 6, 0, 0}, {0, 2, -4}, {3, 5}, {0, 0}} {
				r := of(kind, 8, slices.Clone(coefficients)...)
				got, _ := f(r)
				for i := range got.Of {
					got.Of[i] = 77
				}
				if !slices.Equal(r.Of, coefficients) {
					t.Errorf("%s: the argument %v became %v", name, coefficients, r.Of)
				}
			}
		}
	}
	r, nums := of(same, 1, 2, -3), point(1, 2, 5, 7)
	row.Check(r, 2)
	row.Value(r, nums)
	row.Holds(r, nums)
	if !equal(r, of(same, 1, 2, -3)) || !slices.Equal(nums, point(1, 2, 5, 7)) {
		t.Errorf("the arguments became %v %v", r, nums)
	}
}
