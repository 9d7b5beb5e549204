package words_test

import (
	"math"
	"slices"
	"testing"

	"umpirage/api"
	"umpirage/words"
)

var fine = api.Fault{}

func fault(code, at int) api.Fault { return api.Fault{Code: code, At: at} }

// noWidths are numbers that no word has as its number of bits.
var noWidths = []int{math.MinInt, -64, -8, -1, 0, api.MaxBits + 1, 63, 64, 65, 256, math.MaxInt}

// noWords are numbers that are no words of so many bits.
func noWords(bits int) []int {
	return []int{math.MinInt, math.MinInt + 1, -1 << 32, -1 << bits, -2, -1, 1 << bits, 1<<bits + 1, 1 << 32, math.MaxInt}
}

// TestBits: R7.1: the bits of words, the least significant one first.
func TestBits(t *testing.T) {
	for _, c := range []struct {
		w, bits int
		want    []bool
	}{
		{6, 3, []bool{false, true, true}},
		{0, 1, []bool{false}},
		{1, 1, []bool{true}},
		{1, 2, []bool{true, false}},
		{2, 2, []bool{false, true}},
		{3, 2, []bool{true, true}},
		{1, 8, []bool{true, false, false, false, false, false, false, false}},
		{128, 8, []bool{false, false, false, false, false, false, false, true}},
		{0xB2, 8, []bool{false, true, false, false, true, true, false, true}},
		{0, 8, make([]bool, 8)},
		{255, 8, slices.Repeat([]bool{true}, 8)},
		{127, 7, slices.Repeat([]bool{true}, 7)},
	} {
		if b, not := words.Bits(c.w, c.bits); !slices.Equal(b, c.want) || not != fine {
			t.Errorf("Bits(%d, %d) is %v, %v, but should be %v", c.w, c.bits, b, not, c.want)
		}
	}
}

// TestBitsFaults: R7.1: first the width is checked, then the word.
func TestBitsFaults(t *testing.T) {
	none := func(w, bits int, want api.Fault) {
		t.Helper()
		if b, not := words.Bits(w, bits); len(b) != 0 || not != want {
			t.Errorf("Bits(%d, %d) is %v, %v, but should be %v", w, bits, b, not, want)
		}
	}
	for _, bits := range noWidths {
		for _, w := range append(noWords(api.MaxBits), 0, 1, 2, 255) {
			none(w, bits, fault(api.ErrRange, -1))
		}
	}
	for bits := 1; bits <= api.MaxBits; bits++ {
		for _, w := range noWords(bits) {
			none(w, bits, fault(api.ErrRange, 0))
		}
	}
}

// TestOf: R7.2: the word with the given bits.
func TestOf(t *testing.T) {
	for _, c := range []struct {
		b    []bool
		want int
	}{
		{[]bool{false, true, true}, 6},
		{[]bool{false}, 0},
		{[]bool{true}, 1},
		{[]bool{true, false}, 1},
		{[]bool{false, true}, 2},
		{[]bool{true, false, false, false, false, false, false, true}, 129},
		{[]bool{false, false, true, false, true, true, false, false}, 0x34},
		{make([]bool, 8), 0},
		{slices.Repeat([]bool{true}, 8), 255},
	} {
		if w, not := words.Of(c.b); w != c.want || not != fine {
			t.Errorf("Of(%v) is %d, %v, but should be %d", c.b, w, not, c.want)
		}
	}
}

// TestOfFaults: R7.2: no bits, and more than MaxBits, whatever they are.
func TestOfFaults(t *testing.T) {
	for _, n := range []int{0, api.MaxBits + 1, api.MaxBits + 2, 16, 63, 64, 65, 1000} {
		for _, b := range [][]bool{make([]bool, n), slices.Repeat([]bool{true}, n)} {
			if w, not := words.Of(b); w != 0 || not != fault(api.ErrSize, 0) {
				t.Errorf("Of %d bits is %d, %v", n, w, not)
			}
		}
	}
	if w, not := words.Of(nil); w != 0 || not != fault(api.ErrSize, 0) {
		t.Errorf("Of(nil) is %d, %v", w, not)
	}
}

// TestInverse: R7.1, R7.2: Of and Bits are inverse to each other, on all words and on all lists of bits.
func TestInverse(t *testing.T) {
	for bits := 1; bits <= api.MaxBits; bits++ {
		lists := map[[api.MaxBits]bool]bool{}
		for w := range 1 << bits {
			b, not := words.Bits(w, bits)
			if len(b) != bits || not != fine {
				t.Fatalf("Bits(%d, %d) is %v, %v", w, bits, b, not)
			}
			if again, not := words.Of(b); again != w || not != fine {
				t.Errorf("Of(Bits(%d, %d)) is %d, %v", w, bits, again, not)
			}
			var list [api.MaxBits]bool
			copy(list[:], b)
			lists[list] = true
		}
		if len(lists) != 1<<bits {
			t.Errorf("the words of %d bits have %d lists of bits", bits, len(lists))
		}
	}
	for bits := 1; bits <= api.MaxBits; bits++ {
		b := make([]bool, bits)
		for more := true; more; more = next(b) {
			w, not := words.Of(b)
			if w < 0 || w >= 1<<bits || not != fine {
				t.Fatalf("Of(%v) is %d, %v", b, w, not)
			}
			if again, not := words.Bits(w, bits); !slices.Equal(again, b) || not != fine {
				t.Errorf("Bits(Of(%v)) is %v, %v", b, again, not)
			}
		}
	}
}

// next makes of a list of bits another one, until all of them were there.
func next(b []bool) bool {
	for k := range b {
		b[k] = !b[k]
		if b[k] {
			return true
		}
	}
	return false
}

// TestMemory: P1: results have memory of their own, and arguments stay as they are.
func TestMemory(t *testing.T) {
	b := []bool{true, false, true}
	words.Of(b)
	if !slices.Equal(b, []bool{true, false, true}) {
		t.Errorf("Of makes of its bits %v", b)
	}
	one, _ := words.Bits(5, 3)
	two, _ := words.Bits(5, 3)
	one[0], one[1] = false, true
	if three, _ := words.Bits(5, 3); !slices.Equal(two, b) || !slices.Equal(three, b) {
		t.Errorf("bits that are changed change others: %v, %v", two, three)
	}
	for _, op := range all {
		kids := []int{5, 6}[:count(op)]
		words.Do(op, 3, kids, 0)
		if !slices.Equal(kids, []int{5, 6}[:count(op)]) {
			t.Errorf("operation %d makes of its operands %v", op, kids)
		}
	}
}
