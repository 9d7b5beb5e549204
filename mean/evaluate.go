package mean

import (
	"slices"

	"umpirage/api"
	"umpirage/frac"
)

// evaluate is the value of a node of a sort whose children have the values kids, or ErrMuch;
// meaning tells what a name means. The value shares no memory with kids.
func evaluate(n api.Node, sort int, kids []api.Value, meaning func(name string) api.Meaning) (api.Value, api.Fault) {
	var nums []api.Frac
	for _, kid := range kids {
		nums = append(nums, kid.Num)
	}
	switch n.Op {
	case api.OpName:
		return told(meaning(n.Name), nums), api.Fault{}
	case api.OpPick:
		return api.Value{Num: pick(nums)}, api.Fault{}
	case api.OpNum, api.OpAdd, api.OpTimes:
		f, fault := number(n, nums)
		return api.Value{Num: f}, fault
	case api.OpGet:
		return whole(get(kids[0], nums[1].Num)), api.Fault{}
	case api.OpPut:
		return put(kids[0], nums[1].Num, nums[2].Num), api.Fault{}
	}
	if sort == api.SortBool {
		return whole(asNumber(truth(n.Op, nums))), api.Fault{}
	}
	return whole(word(n, modulus(sort), nums)), api.Fault{}
}

func whole(n int) api.Value { return api.Value{Num: api.Frac{Num: n, Den: 1}} }

func asNumber(b bool) int {
	if b {
		return 1
	}
	return 0
}

func isTrue(f api.Frac) bool { return f.Num == 1 }

func isFalse(f api.Frac) bool { return f.Num == 0 }

// pick is the value of a choice; it is of no array, so that a fraction is all of it.
func pick(nums []api.Frac) api.Frac {
	if isTrue(nums[0]) {
		return nums[1]
	}
	return nums[2]
}

// truth tells whether a Boolean operator or a comparison is true.
func truth(op int, nums []api.Frac) bool {
	switch op {
	case api.OpTrue:
		return true
	case api.OpNot:
		return isFalse(nums[0])
	case api.OpAnd:
		return !slices.ContainsFunc(nums, isFalse)
	case api.OpOr:
		return slices.ContainsFunc(nums, isTrue)
	case api.OpIff, api.OpSame: // there is one form for each value
		return nums[0] == nums[1]
	case api.OpLess, api.OpWLess:
		return less(nums[0], nums[1])
	case api.OpMost:
		return !less(nums[1], nums[0])
	}
	return false
}

// less compares two values, which are valid fractions.
func less(a, b api.Frac) bool {
	is, _ := frac.Less(a, b)
	return is
}

// number is the value of a number, a sum or a product, or ErrMuch.
func number(n api.Node, nums []api.Frac) (api.Frac, api.Fault) {
	switch n.Op {
	case api.OpNum:
		return api.Frac{Num: n.N, Den: n.D}, api.Fault{}
	case api.OpTimes:
		return frac.Times(nums[0], api.Frac{Num: n.N, Den: n.D})
	}
	sum, fault := api.Frac{Den: 1}, api.Fault{}
	for _, f := range nums {
		if sum, fault = frac.Add(sum, f); fault != (api.Fault{}) {
			break
		}
	}
	return sum, fault
}

// word is the value of an operator on bit vectors of a sort with so many values.
func word(n api.Node, modulus int, nums []api.Frac) int {
	of := func(kid int) int { return nums[kid].Num }
	switch n.Op {
	case api.OpWord:
		return n.N
	case api.OpWNot:
		return modulus - 1 - of(0)
	case api.OpWAnd:
		return of(0) & of(1)
	case api.OpWOr:
		return of(0) | of(1)
	case api.OpWXor:
		return of(0) ^ of(1)
	case api.OpWAdd:
		return (of(0) + of(1)) % modulus
	case api.OpWTimes:
		return of(0) * of(1) % modulus
	default: // OpWLeft
		return (of(0) << n.N) % modulus
	}
}
