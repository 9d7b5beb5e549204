package ask

import (
	"slices"

	"umpirage/api"
)

// sortOf is the sort of a node whose children, as many as its operator takes, have the sorts kids,
// and whose name is declared to be of the sort named; it is 0 if the sort of a child is not allowed.
func sortOf(n api.Node, named int, kids []int) int {
	switch n.Op {
	case api.OpTrue, api.OpFalse, api.OpNot, api.OpAnd, api.OpOr, api.OpIff:
		return when(every(kids, isBool), api.SortBool)
	case api.OpPick:
		return when(isBool(kids[0]) && kids[1] == kids[2] && kids[1] != api.SortArray, kids[1])
	case api.OpSame:
		return when(every(kids, isNumeric) || every(kids, isThing) || sameWords(kids), api.SortBool)
	case api.OpName:
		return when(every(kids, isThing), named)
	case api.OpNum, api.OpAdd, api.OpTimes:
		return when(every(kids, isNumeric), number(n, kids))
	case api.OpLess, api.OpMost:
		return when(every(kids, isNumeric), api.SortBool)
	case api.OpWord:
		return api.SortWord + n.D
	case api.OpWNot, api.OpWLeft, api.OpWAnd, api.OpWOr, api.OpWXor, api.OpWAdd, api.OpWTimes:
		return when(sameWords(kids), kids[0])
	case api.OpWLess:
		return when(sameWords(kids), api.SortBool)
	case api.OpGet:
		return when(kids[0] == api.SortArray && isThing(kids[1]), api.SortThing)
	case api.OpPut:
		return when(kids[0] == api.SortArray && every(kids[1:], isThing), api.SortArray)
	}
	return 0
}

// when is a sort if it is allowed, and else none.
func when(allowed bool, sort int) int {
	if allowed {
		return sort
	}
	return 0
}

// number is the sort of a number, a sum or a product, of children with the sorts kids.
func number(n api.Node, kids []int) int {
	if n.Op != api.OpAdd && n.D != 1 || !every(kids, isInt) {
		return api.SortReal
	}
	return api.SortInt
}

// every tells whether all numbers of a list are as is tells.
func every(l []int, is func(int) bool) bool {
	return !slices.ContainsFunc(l, func(n int) bool { return !is(n) })
}

// sameWords tells whether all sorts of a list that is not empty are one and the same bit vector sort.
func sameWords(sorts []int) bool {
	return isWord(sorts[0]) && every(sorts, func(sort int) bool { return sort == sorts[0] })
}

func isSort(sort int) bool { return sort >= api.SortBool && sort <= api.SortArray || isWord(sort) }

func isBool(sort int) bool { return sort == api.SortBool }

func isInt(sort int) bool { return sort == api.SortInt }

func isNumeric(sort int) bool { return sort == api.SortInt || sort == api.SortReal }

func isThing(sort int) bool { return sort == api.SortThing }

func isWord(sort int) bool { return sort > api.SortWord && sort <= api.SortWord+api.MaxBits }
