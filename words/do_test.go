package words_test

import (
	"math"
	"slices"
	"testing"

	"umpirage/api"
	"umpirage/words"
)

// all are the operations on words.
var all = []int{api.OpWord, api.OpWNot, api.OpWAnd, api.OpWOr, api.OpWXor, api.OpWAdd, api.OpWTimes, api.OpWLess, api.OpWLeft}

// others are no operations on words.
var others = []int{math.MinInt, -1, 0, api.OpTrue, api.OpNot, api.OpAnd, api.OpPick, api.OpSame, api.OpName, api.OpNum, api.OpAdd, api.OpTimes,
	api.OpLess, api.OpMost, api.OpGet, api.OpPut, api.OpPut + 1, 100, math.MaxInt}

// count is the number of operands that an operation on words has.
func count(op int) int {
	switch op {
	case api.OpWord:
		return 0
	case api.OpWNot, api.OpWLeft:
		return 1
	}
	return 2
}

// does fails the test if an operation has another result.
func does(t *testing.T, op, bits int, kids []int, n, want int, wanted api.Fault) {
	t.Helper()
	if w, not := words.Do(op, bits, kids, n); w != want || not != wanted {
		t.Errorf("Do(%d, %d, %v, %d) is %d, %v, but should be %d, %v", op, bits, kids, n, w, not, want, wanted)
	}
}

// TestDo: R7.3: each operation, on words written out.
func TestDo(t *testing.T) {
	for _, c := range []struct {
		op, bits int
		kids     []int
		n, want  int
	}{
		{api.OpWAdd, 3, []int{5, 6}, 0, 3},
		{api.OpWord, 3, nil, 5, 5},
		{api.OpWord, 3, []int{}, 0, 0},
		{api.OpWord, 1, nil, 1, 1},
		{api.OpWord, 8, nil, 255, 255},
		{api.OpWNot, 1, []int{0}, 0, 1},
		{api.OpWNot, 1, []int{1}, 0, 0},
		{api.OpWNot, 3, []int{5}, 0, 2},
		{api.OpWNot, 8, []int{0}, 0, 255},
		{api.OpWNot, 8, []int{0xA5}, 0, 0x5A},
		{api.OpWAnd, 4, []int{12, 10}, 0, 8},
		{api.OpWOr, 4, []int{12, 10}, 0, 14},
		{api.OpWXor, 4, []int{12, 10}, 0, 6},
		{api.OpWAnd, 8, []int{0xF0, 0x3C}, 0, 0x30},
		{api.OpWOr, 8, []int{0xF0, 0x3C}, 0, 0xFC},
		{api.OpWXor, 8, []int{0xF0, 0x3C}, 0, 0xCC},
		{api.OpWAdd, 1, []int{1, 1}, 0, 0},
		{api.OpWAdd, 4, []int{5, 6}, 0, 11},
		{api.OpWAdd, 8, []int{255, 1}, 0, 0},
		{api.OpWAdd, 8, []int{255, 255}, 0, 254},
		{api.OpWTimes, 1, []int{1, 1}, 0, 1},
		{api.OpWTimes, 3, []int{5, 6}, 0, 6},
		{api.OpWTimes, 8, []int{15, 17}, 0, 255},
		{api.OpWTimes, 8, []int{16, 16}, 0, 0},
		{api.OpWTimes, 8, []int{255, 255}, 0, 1},
		{api.OpWLess, 1, []int{0, 1}, 0, 1},
		{api.OpWLess, 1, []int{1, 0}, 0, 0},
		{api.OpWLess, 3, []int{5, 6}, 0, 1},
		{api.OpWLess, 3, []int{6, 5}, 0, 0},
		{api.OpWLess, 3, []int{5, 5}, 0, 0},
		{api.OpWLess, 8, []int{127, 128}, 0, 1},
		{api.OpWLess, 8, []int{255, 0}, 0, 0},
		{api.OpWLeft, 3, []int{5}, 0, 5},
		{api.OpWLeft, 3, []int{5}, 1, 2},
		{api.OpWLeft, 3, []int{5}, 2, 4},
		{api.OpWLeft, 3, []int{5}, 3, 0},
		{api.OpWLeft, 3, []int{5}, 8, 0},
		{api.OpWLeft, 1, []int{1}, 1, 0},
		{api.OpWLeft, 8, []int{255}, 7, 128},
		{api.OpWLeft, 8, []int{255}, 8, 0},
	} {
		does(t, c.op, c.bits, c.kids, c.n, c.want, fine)
	}
}

// TestShifts: R7.3: a shift by nothing, by the width, by MaxBits, and by one more.
func TestShifts(t *testing.T) {
	for bits := 1; bits <= api.MaxBits; bits++ {
		for w := range 1 << bits {
			does(t, api.OpWLeft, bits, []int{w}, 0, w, fine)
			does(t, api.OpWLeft, bits, []int{w}, bits-1, w%2<<(bits-1), fine)
			does(t, api.OpWLeft, bits, []int{w}, bits, 0, fine)
			does(t, api.OpWLeft, bits, []int{w}, api.MaxBits, 0, fine)
			for _, n := range []int{math.MinInt, -8, -1, api.MaxBits + 1, 63, 64, math.MaxInt} {
				does(t, api.OpWLeft, bits, []int{w}, n, 0, fault(api.ErrForm, 0))
			}
		}
	}
}

// TestKind: R7.3: what is no operation on words is that first of all.
func TestKind(t *testing.T) {
	for _, op := range others {
		for _, bits := range append([]int{1, 3, 8}, noWidths...) {
			for _, kids := range [][]int{nil, {0}, {1, 1}, {1, 1, 1}, {-1}, {0, 256}} {
				for _, n := range []int{0, 1, -1, 300} {
					does(t, op, bits, kids, n, 0, fault(api.ErrKind, 0))
				}
			}
		}
	}
}

// TestWidth: R7.3: a width that is none, with whatever is wrong behind it.
func TestWidth(t *testing.T) {
	for _, op := range all {
		for _, bits := range noWidths {
			for _, kids := range [][]int{nil, {0}, {1, 1}, {1, 1, 1}, {-1}, {0, 256}} {
				for _, n := range []int{0, 1, -1, 300} {
					does(t, op, bits, kids, n, 0, fault(api.ErrRange, -1))
				}
			}
		}
	}
}

// TestCount: R7.3: wrong numbers of operands, also of such that are no words, and with an n that may not be.
func TestCount(t *testing.T) {
	for _, op := range all {
		for bits := 1; bits <= api.MaxBits; bits++ {
			for size := range 4 {
				for _, w := range []int{0, 1<<bits - 1, -1, 1 << bits} {
					for _, n := range []int{0, -1, 300} {
						if size != count(op) {
							does(t, op, bits, slices.Repeat([]int{w}, size), n, 0, fault(api.ErrSize, 0))
						}
					}
				}
			}
			does(t, op, bits, make([]int, 1000), 0, 0, fault(api.ErrSize, 0))
		}
	}
}

// TestOperands: R7.3: the first operand that is no word, also with an n that may not be.
func TestOperands(t *testing.T) {
	for _, op := range all[1:] {
		for bits := 1; bits <= api.MaxBits; bits++ {
			for _, bad := range noWords(bits) {
				for _, n := range []int{0, 1, -1, 300} {
					for at := range count(op) {
						kids := make([]int, count(op))
						kids[at] = bad
						does(t, op, bits, kids, n, 0, fault(api.ErrRange, at))
						if at > 0 {
							does(t, op, bits, []int{-1, bad}, n, 0, fault(api.ErrRange, 0))
							does(t, op, bits, []int{1 << bits, bad}, n, 0, fault(api.ErrRange, 0))
						}
					}
				}
			}
		}
	}
}

// TestN: R7.3: an n that may not be.
func TestN(t *testing.T) {
	for bits := 1; bits <= api.MaxBits; bits++ {
		for _, n := range noWords(bits) {
			does(t, api.OpWord, bits, nil, n, 0, fault(api.ErrForm, 0))
		}
		for _, op := range all {
			if op == api.OpWord || op == api.OpWLeft {
				continue
			}
			for _, n := range []int{math.MinInt, -1, 1, 2, bits, api.MaxBits, 1<<bits - 1, math.MaxInt} {
				does(t, op, bits, make([]int, count(op)), n, 0, fault(api.ErrForm, 0))
			}
		}
	}
}
