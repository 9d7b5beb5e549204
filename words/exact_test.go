package words_test

import (
	"math"
	"math/rand"
	"slices"
	"testing"

	"umpirage/api"
	"umpirage/mean"
	"umpirage/words"
)

// These tests compare package words with a second implementation, which works on words as lists of bits, and with package mean.

// bitsOf is the bits of a word, by division.
func bitsOf(w, bits int) []bool {
	var b []bool
	for range bits {
		b = append(b, w%2 == 1)
		w /= 2
	}
	return b
}

// wordOf is the word with the bits b, by doubling.
func wordOf(b []bool) int {
	w := 0
	for _, isSet := range slices.Backward(b) {
		w *= 2
		if isSet {
			w++
		}
	}
	return w
}

// each is the bits that a function makes of those of two words.
func each(a, b []bool, of func(x, y bool) bool) []bool {
	var c []bool
	for k := range a {
		c = append(c, of(a[k], b[k]))
	}
	return c
}

// sum adds two words, with a carry.
func sum(a, b []bool) []bool {
	carry := false
	return each(a, b, func(x, y bool) bool {
		s := (x != y) != carry
		carry = x && y || carry && (x || y)
		return s
	})
}

// moved is a word shifted to the left.
func moved(a []bool, n int) []bool { return append(make([]bool, n), a...)[:len(a)] }

// product adds shifted words.
func product(a, b []bool) []bool {
	p := make([]bool, len(a))
	for k := range b {
		if b[k] {
			p = sum(p, moved(a, k))
		}
	}
	return p
}

// isLess compares two words from their most significant bits on.
func isLess(a, b []bool) bool {
	for k := len(a) - 1; k >= 0; k-- {
		if a[k] != b[k] {
			return b[k]
		}
	}
	return false
}

// exactDo is an operation on words, of valid arguments.
func exactDo(op, bits int, kids []int, n int) int {
	var a, b []bool
	if len(kids) > 0 {
		a, b = bitsOf(kids[0], bits), bitsOf(kids[len(kids)-1], bits)
	}
	switch op {
	case api.OpWord:
		return n
	case api.OpWNot:
		return wordOf(each(a, a, func(x, _ bool) bool { return !x }))
	case api.OpWAnd:
		return wordOf(each(a, b, func(x, y bool) bool { return x && y }))
	case api.OpWOr:
		return wordOf(each(a, b, func(x, y bool) bool { return x || y }))
	case api.OpWXor:
		return wordOf(each(a, b, func(x, y bool) bool { return x != y }))
	case api.OpWAdd:
		return wordOf(sum(a, b))
	case api.OpWTimes:
		return wordOf(product(a, b))
	case api.OpWLess:
		return wordOf([]bool{isLess(a, b)})
	}
	return wordOf(moved(a, n))
}

// operandsOf yields all lists of operands that an operation may have.
func operandsOf(op, bits int) func(yield func(kids []int) bool) {
	return func(yield func(kids []int) bool) {
		if count(op) == 0 {
			yield(nil)
			return
		}
		for a := range 1 << bits {
			if count(op) == 1 && !yield([]int{a}) {
				return
			}
			for b := 0; b < 1<<bits && count(op) == 2; b++ {
				if !yield([]int{a, b}) {
					return
				}
			}
		}
	}
}

// numbersOf are all n that an operation may have.
func numbersOf(op, bits int) []int {
	size := 1
	switch op {
	case api.OpWord:
		size = 1 << bits
	case api.OpWLeft:
		size = api.MaxBits + 1
	}
	var l []int
	for n := range size {
		l = append(l, n)
	}
	return l
}

// TestEveryOperation: R7.3: every operation at every width on all words.
func TestEveryOperation(t *testing.T) {
	for _, op := range all {
		for bits := 1; bits <= api.MaxBits; bits++ {
			for _, n := range numbersOf(op, bits) {
				for kids := range operandsOf(op, bits) {
					does(t, op, bits, kids, n, exactDo(op, bits, kids, n), fine)
				}
			}
		}
	}
}

// TestEveryBit: R7.1, R7.2: every word at every width.
func TestEveryBit(t *testing.T) {
	for bits := 1; bits <= api.MaxBits; bits++ {
		for w := range 1 << bits {
			want := bitsOf(w, bits)
			if b, not := words.Bits(w, bits); !slices.Equal(b, want) || not != fine {
				t.Errorf("Bits(%d, %d) is %v, %v, but should be %v", w, bits, b, not, want)
			}
			if of, not := words.Of(want); of != w || not != fine {
				t.Errorf("Of(%v) is %d, %v, but should be %d", want, of, not, w)
			}
		}
	}
}

// TestMeaning: R7.3: the operations are those of package mean.
func TestMeaning(t *testing.T) {
	random := rand.New(rand.NewSource(7))
	for range 3000 {
		op, bits := all[random.Intn(len(all))], 1+random.Intn(api.MaxBits)
		numbers := numbersOf(op, bits)
		last := api.Node{Op: op, N: numbers[random.Intn(len(numbers))]}
		query := api.Ask{}
		var kids []int
		for k := range count(op) {
			kids = append(kids, random.Intn(1<<bits))
			query.Nodes = append(query.Nodes, api.Node{Op: api.OpWord, N: kids[k], D: bits})
			last.Kids = append(last.Kids, k)
		}
		if op == api.OpWord {
			last.D = bits
		}
		query.Nodes = append(query.Nodes, last)
		values, not := mean.Value(query, api.World{})
		if not != fine {
			t.Fatalf("the value of %v: %v", query, not)
		}
		does(t, op, bits, kids, last.N, values[count(op)].Num.Num, fine)
	}
}

// exactFault is what is wrong with the arguments of an operation on words, read off the chapter.
func exactFault(op, bits int, kids []int, n int) api.Fault {
	isWord := func(w int) bool {
		for of := range 1 << bits {
			if w == of {
				return true
			}
		}
		return false
	}
	if !slices.Contains(all, op) {
		return fault(api.ErrKind, 0)
	}
	if !slices.Contains([]int{1, 2, 3, 4, 5, 6, 7, 8}, bits) {
		return fault(api.ErrRange, -1)
	}
	if len(kids) != count(op) {
		return fault(api.ErrSize, 0)
	}
	for at, w := range kids {
		if !isWord(w) {
			return fault(api.ErrRange, at)
		}
	}
	if !slices.Contains(numbersOf(op, bits), n) {
		return fault(api.ErrForm, 0)
	}
	return fine
}

// TestFaults: R7.3: arguments at random, with several faults at once.
func TestFaults(t *testing.T) {
	random := rand.New(rand.NewSource(73))
	seen := map[api.Fault]int{}
	number := func(bits int) int {
		l := []int{0, 0, 0, 1, 1, 2, bits, 1<<(bits&15) - 1, 1 << (bits & 15), -1, api.MaxBits, api.MaxBits + 1, math.MinInt, math.MaxInt}
		return l[random.Intn(len(l))]
	}
	for range 100000 {
		op, bits := all[random.Intn(len(all))], 1+random.Intn(api.MaxBits)
		if random.Intn(8) == 0 {
			op = others[random.Intn(len(others))]
		}
		if random.Intn(8) == 0 {
			bits = noWidths[random.Intn(len(noWidths))]
		}
		size := count(op)
		if random.Intn(8) == 0 {
			size = random.Intn(4)
		}
		var kids []int
		for range size {
			kids = append(kids, number(bits))
		}
		n := number(bits)
		want := exactFault(op, bits, kids, n)
		seen[want]++
		w := 0
		if want == fine {
			w = exactDo(op, bits, kids, n)
		}
		does(t, op, bits, kids, n, w, want)
	}
	for _, f := range []api.Fault{fine, fault(api.ErrKind, 0), fault(api.ErrRange, -1), fault(api.ErrSize, 0), fault(api.ErrRange, 0),
		fault(api.ErrRange, 1), fault(api.ErrForm, 0)} {
		if seen[f] < 1000 {
			t.Errorf("the fault %v came only %d times", f, seen[f])
		}
	}
}
