package ask

import (
	"umpirage/api"
	"umpirage/frac"
)

// anyNumber is the number of children of an operator that takes as many as come.
const anyNumber = -1

// nodeSort is the sort of the node at a position, when those of the earlier ones are known,
// or the code of what is wrong with it.
func nodeSort(a api.Ask, sorts []int, at int) (int, int) {
	n := a.Nodes[at]
	if n.Op < api.OpTrue || n.Op > api.OpPut {
		return 0, api.ErrKind
	}
	wants, named := kidCount(n.Op), 0
	if n.Op == api.OpName {
		d := declared(a.Decls, n.Name)
		if d < 0 {
			return 0, api.ErrNone
		}
		wants, named = len(a.Decls[d].Args), a.Decls[d].Sort
	}
	if len(n.Kids) > api.MaxKids || wants != anyNumber && len(n.Kids) != wants {
		return 0, api.ErrSize
	}
	if !every(n.Kids, func(kid int) bool { return kid >= 0 && kid < at }) {
		return 0, api.ErrRange
	}
	if code := wrongNumbers(n); code != api.OK {
		return 0, code
	}
	var kids []int
	for _, kid := range n.Kids {
		kids = append(kids, sorts[kid])
	}
	sort := sortOf(n, named, kids)
	if sort == 0 {
		return 0, api.ErrSort
	}
	return sort, api.OK
}

// kidCount is how many children an operator takes, where that does not depend on a declaration.
func kidCount(op int) int {
	switch op {
	case api.OpTrue, api.OpFalse, api.OpNum, api.OpWord:
		return 0
	case api.OpNot, api.OpTimes, api.OpWNot, api.OpWLeft:
		return 1
	case api.OpPick, api.OpPut:
		return 3
	case api.OpAnd, api.OpOr, api.OpAdd:
		return anyNumber
	}
	return 2
}

// wrongNumbers is the code of what is wrong with the name and the numbers of a node.
func wrongNumbers(n api.Node) int {
	fraction := n.Op == api.OpNum || n.Op == api.OpTimes
	word := n.Op == api.OpWord
	left := n.Op == api.OpWLeft
	switch {
	case n.Name != "" && n.Op != api.OpName:
		return api.ErrForm
	case n.N != 0 && !fraction && !word && !left:
		return api.ErrForm
	case n.D != 0 && !fraction && !word:
		return api.ErrForm
	case fraction && !isFraction(n.N, n.D):
		return api.ErrRange
	case word && !(n.D >= 1 && n.D <= api.MaxBits && n.N >= 0 && n.N < 1<<n.D):
		return api.ErrRange
	case left && (n.N < 0 || n.N > api.MaxBits):
		return api.ErrRange
	}
	return api.OK
}

// isFraction tells whether n / d is in lowest terms, and both are small enough for a node.
func isFraction(n, d int) bool {
	return n >= -api.MaxWhole && n <= api.MaxWhole && d <= api.MaxWhole &&
		frac.Check(api.Frac{Num: n, Den: d}) == (api.Fault{})
}
