package words

import (
	"slices"

	"umpirage/api"
)

// operands has the number of operands of each operation.
var operands = [...]int{
	api.OpWord:   0,
	api.OpWNot:   1,
	api.OpWAnd:   2,
	api.OpWOr:    2,
	api.OpWXor:   2,
	api.OpWAdd:   2,
	api.OpWTimes: 2,
	api.OpWLess:  2,
	api.OpWLeft:  1,
}

// operation is the value of an operation on the words of and n, where only the bits of a word count.
type operation func(of []int, n int) int

// operations has the operations on words; there are no others.
func operations() map[int]operation {
	return map[int]operation{
		api.OpWord:   func(_ []int, n int) int { return n },
		api.OpWNot:   func(of []int, _ int) int { return ^of[0] },
		api.OpWAnd:   func(of []int, _ int) int { return of[0] & of[1] },
		api.OpWOr:    func(of []int, _ int) int { return of[0] | of[1] },
		api.OpWXor:   func(of []int, _ int) int { return of[0] ^ of[1] },
		api.OpWAdd:   func(of []int, _ int) int { return of[0] + of[1] },
		api.OpWTimes: func(of []int, _ int) int { return of[0] * of[1] },
		api.OpWLess:  func(of []int, _ int) int { return less(of[0], of[1]) },
		api.OpWLeft:  func(of []int, n int) int { return of[0] << n },
	}
}

func less(a, b int) int {
	if a < b {
		return 1
	}
	return 0
}

// Do is the value of an operation on the words kids of so many bits; n is the word of OpWord, and
// the distance of OpWLeft.
func Do(op, bits int, kids []int, n int) (int, api.Fault) {
	do, isOne := operations()[op]
	if !isOne {
		return 0, api.Fault{Code: api.ErrKind}
	}
	if fault := wrong(op, bits, kids, n); fault != (api.Fault{}) {
		return 0, fault
	}
	return do(kids, n) & greatest(bits), api.Fault{}
}

// wrong is what is wrong with the arguments of an operation on words.
func wrong(op, bits int, kids []int, n int) api.Fault {
	switch {
	case isNoWidth(bits):
		return api.Fault{Code: api.ErrRange, At: -1}
	case len(kids) != operands[op]:
		return api.Fault{Code: api.ErrSize}
	}
	outside := func(w int) bool { return isNoWord(w, bits) }
	if at := slices.IndexFunc(kids, outside); at >= 0 {
		return api.Fault{Code: api.ErrRange, At: at}
	}
	if n < 0 || n > most(op, bits) {
		return api.Fault{Code: api.ErrForm}
	}
	return api.Fault{}
}

// most is the greatest n of an operation.
func most(op, bits int) int {
	switch op {
	case api.OpWord:
		return greatest(bits)
	case api.OpWLeft:
		return api.MaxBits
	}
	return 0
}
