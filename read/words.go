package read

import (
	"strconv"
	"strings"

	"umpirage/api"
)

const (
	declWord  = "decl"
	holdWord  = "hold"
	thingWord = "thing"

	maxDigits = 7 // of a number, before and after the '/'
)

// operators has the word of each operator that is written with one.
var operators = [...]string{
	api.OpTrue:   "true",
	api.OpFalse:  "false",
	api.OpNot:    "not",
	api.OpAnd:    "and",
	api.OpOr:     "or",
	api.OpIff:    "iff",
	api.OpPick:   "pick",
	api.OpSame:   "same",
	api.OpAdd:    "add",
	api.OpTimes:  "times",
	api.OpLess:   "less",
	api.OpMost:   "most",
	api.OpWNot:   "wnot",
	api.OpWAnd:   "wand",
	api.OpWOr:    "wor",
	api.OpWXor:   "wxor",
	api.OpWAdd:   "wadd",
	api.OpWTimes: "wtimes",
	api.OpWLess:  "wless",
	api.OpWLeft:  "wleft",
	api.OpGet:    "get",
	api.OpPut:    "put",
}

// sorts has the word of each sort.
var sorts = [...]string{
	api.SortBool:     "bool",
	api.SortInt:      "int",
	api.SortReal:     "real",
	api.SortThing:    thingWord,
	api.SortArray:    "array",
	api.SortWord + 1: "word1",
	api.SortWord + 2: "word2",
	api.SortWord + 3: "word3",
	api.SortWord + 4: "word4",
	api.SortWord + 5: "word5",
	api.SortWord + 6: "word6",
	api.SortWord + 7: "word7",
	api.SortWord + 8: "word8",
}

// operatorOf is the operator with a word, which is not empty, or 0.
func operatorOf(word string) int {
	for op, w := range operators {
		if w == word {
			return op
		}
	}
	return 0
}

// sortOf is the sort with a word, which is not empty, or 0.
func sortOf(word string) int {
	for sort, w := range sorts {
		if w == word {
			return sort
		}
	}
	return 0
}

// isReserved tells whether a word, which is not empty, cannot be a name.
func isReserved(word string) bool {
	_, number := numberOf(word)
	_, bits := bitsOf(word)
	return number || bits || operatorOf(word) != 0
}

// numberOf is the node of the number that a word denotes, if it does.
func numberOf(word string) (api.Node, bool) {
	digits, negative := strings.CutPrefix(word, "-")
	above, below, divided := strings.Cut(digits, "/")
	n, good := wholeOf(above)
	d := 1
	if divided {
		var goodBelow bool
		d, goodBelow = wholeOf(below)
		good = good && goodBelow && d > 1
	}
	if negative {
		good = good && n > 0
		n = -n
	}
	if !good {
		return api.Node{}, false
	}
	return api.Node{Op: api.OpNum, N: n, D: d}, true
}

// wholeOf is the number with such decimal digits, if they are digits, not too many, and none of them is needless.
func wholeOf(digits string) (int, bool) {
	if len(digits) > maxDigits || len(digits) > 1 && digits[0] == '0' {
		return 0, false
	}
	n, err := strconv.ParseUint(digits, 10, 32)
	return int(n), err == nil
}

// bitsOf is the node of the bit vector that a word denotes, if it does; it can be too wide for a query.
func bitsOf(word string) (api.Node, bool) {
	bits, good := strings.CutPrefix(word, "b")
	n, err := strconv.ParseUint(bits, 2, 32)
	if !good || err != nil {
		return api.Node{}, false
	}
	return api.Node{Op: api.OpWord, N: int(n), D: len(bits)}, true
}

// numberText is the word of the number n / d; a d of 0 is as good as 1.
func numberText(n, d int) string {
	if d > 1 {
		return strconv.Itoa(n) + "/" + strconv.Itoa(d)
	}
	return strconv.Itoa(n)
}

// bitsText is the word of the bit vector n of a width.
func bitsText(n, width int) string {
	bits := strconv.FormatInt(int64(n), 2)
	return "b" + strings.Repeat("0", width-len(bits)) + bits
}
