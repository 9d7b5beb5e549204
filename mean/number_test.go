package mean_test

import (
	"slices"
	"testing"

	"umpirage/api"
)

// TestNumbers: R5.3: numbers, sums and products.
func TestNumbers(t *testing.T) {
	const limit = api.MaxWhole
	last(t, "numbers", api.Ask{Nodes: []api.Node{number(api.OpNum, 0, 1), number(api.OpNum, limit, 1), number(api.OpNum, -limit, 1),
		number(api.OpNum, 1, limit), number(api.OpNum, -limit, limit-1)}}, api.World{},
		whole(0), whole(limit), whole(-limit), num(1, limit), num(-limit, limit-1))
	for _, c := range []struct {
		terms []api.Value
		want  api.Value
	}{
		{nil, whole(0)},
		{[]api.Value{whole(5)}, whole(5)},
		{[]api.Value{num(-1, 3)}, num(-1, 3)},
		{[]api.Value{whole(2), whole(-5)}, whole(-3)},
		{[]api.Value{num(1, 2), num(-1, 2)}, whole(0)},
		{[]api.Value{num(1, 2), num(1, 3), num(1, 6)}, whole(1)},
		{[]api.Value{num(1, 6), whole(1)}, num(7, 6)},
		{slices.Repeat([]api.Value{num(1, 8)}, 8), whole(1)},
		{[]api.Value{whole(top - 1), whole(1)}, whole(top)},
		{[]api.Value{whole(1 - top), whole(-1)}, whole(-top)},
		{[]api.Value{whole(top), whole(-top), whole(-top), whole(top)}, whole(0)},
		{[]api.Value{num(1, 1<<15), num(1, 1<<15-1)}, num(1<<16-1, 1<<30-1<<15)},
		{[]api.Value{num(1, top), num(1, top)}, num(1, top/2)},
		{[]api.Value{num(top-1, 2), num(1, 2)}, whole(top / 2)},
	} {
		of(t, "a sum", node(api.OpAdd), c.want, slices.Repeat([]int{api.SortReal}, len(c.terms)), c.terms...)
		if !slices.ContainsFunc(c.terms, func(v api.Value) bool { return v.Num.Den != 1 }) {
			of(t, "a whole sum", node(api.OpAdd), c.want, slices.Repeat([]int{api.SortInt}, len(c.terms)), c.terms...)
		}
	}
	for _, c := range []struct {
		n, d       int
		from, want api.Value
	}{
		{3, 1, whole(-5), whole(-15)},
		{0, 1, whole(top), whole(0)},
		{0, 1, num(-1, top), whole(0)},
		{-1, 1, whole(-top), whole(top)},
		{1, 2, whole(7), num(7, 2)},
		{2, 3, num(3, 2), whole(1)},
		{-2, 3, num(3, 4), num(-1, 2)},
		{limit, 1, num(1, limit), whole(1)},
		{1, limit, whole(limit), whole(1)},
		{1024, 1, whole(top / 1024), whole(top)},
		{1, 1024, num(1, top/1024), num(1, top)},
		{limit, limit - 1, num(limit-1, limit), whole(1)},
	} {
		of(t, "a product", number(api.OpTimes, c.n, c.d), c.want, []int{api.SortReal}, c.from)
		if c.from.Num.Den == 1 {
			of(t, "a product of an Int", number(api.OpTimes, c.n, c.d), c.want, []int{api.SortInt}, c.from)
		}
	}
}

// tooMuch wants ErrMuch of a node that is put behind constants, with others around it.
func tooMuch(t *testing.T, what string, n api.Node, sort int, values ...api.Value) {
	t.Helper()
	a, w := names(slices.Repeat([]int{sort}, len(values)), values...)
	for i := range values {
		n.Kids = append(n.Kids, i)
	}
	a.Nodes = append(a.Nodes, node(api.OpTrue), n, node(api.OpFalse), n)
	run(t, what, a, w, fault(api.ErrMuch, len(values)+1))
	a.Hold = []int{len(values)}
	run(t, what+", where something else is asserted", a, w, fault(api.ErrMuch, len(values)+1))
}

// TestTooMuch: R5.3, R5.4: sums and products past the bounds of fractions, and partial sums.
func TestTooMuch(t *testing.T) {
	for _, terms := range [][]int{
		{top, 1}, {-top, -1}, {top - 1, 2}, {top, top}, {-top, -top}, {1, top}, {top / 2, top / 2, 1},
		{top, 1, -1}, {-top, -1, 1}, {top, top, -top}, {1, top, -1}, {-1, -top, 1}, {0, 0, 0, 0, 0, top, 1, -1}, {0, 0, 0, 0, 0, 0, top, 1},
	} {
		var values []api.Value
		for _, n := range terms {
			values = append(values, whole(n))
		}
		tooMuch(t, "a sum of Ints", node(api.OpAdd), api.SortInt, values...)
		tooMuch(t, "a sum of Reals", node(api.OpAdd), api.SortReal, values...)
	}
	for _, terms := range [][]api.Value{
		{num(1, top), num(1, top-1)},
		{num(1, top), num(1, 3)},
		{num(1, 1<<15), num(1, 1<<15+1)},
		{num(1, top), num(1, 3), num(-1, 3)},
		{num(1, top), num(1, top-1), num(-1, top)},
		{whole(top), num(1, 2)},
		{num(-top, 3), num(-top, 3), num(-top, 3), num(-1, 3)},
		{whole(top), num(1, 2), num(-1, 2)},
		{num(1, 2), whole(top), num(-1, 2)},
	} {
		tooMuch(t, "a sum of fractions", node(api.OpAdd), api.SortReal, terms...)
	}
	tooMuch(t, "2 times what is above the half", number(api.OpTimes, 2, 1), api.SortInt, whole(top/2+1))
	tooMuch(t, "-2 times what is above the half", number(api.OpTimes, -2, 1), api.SortInt, whole(top/2+1))
	tooMuch(t, "1025 times", number(api.OpTimes, 1025, 1), api.SortReal, whole(top/1024))
	tooMuch(t, "3/2 of the greatest number", number(api.OpTimes, 3, 2), api.SortInt, whole(top))
	tooMuch(t, "1/2 of the least fraction", number(api.OpTimes, 1, 2), api.SortReal, num(1, top))
	tooMuch(t, "1/2 of a great denominator", number(api.OpTimes, 1, 2), api.SortReal, num(1, top/2+1))
	tooMuch(t, "a great product", number(api.OpTimes, api.MaxWhole, 1), api.SortInt, whole(-top))
	tooMuch(t, "a small product", number(api.OpTimes, -1, api.MaxWhole), api.SortReal, num(-1, top))
	tooMuch(t, "both parts", number(api.OpTimes, api.MaxWhole, api.MaxWhole-1), api.SortReal, num(top-1, top))
}

// TestFirstTooMuch: R5.3: which node is the first one that is too large, and that all nodes count.
func TestFirstTooMuch(t *testing.T) {
	a := api.Ask{Nodes: []api.Node{
		number(api.OpNum, api.MaxWhole, 1), number(api.OpTimes, 1000, 1, 0), number(api.OpTimes, 2, 1, 1), number(api.OpTimes, 2, 1, 2)}}
	run(t, "the third one", a, api.World{}, fault(api.ErrMuch, 2))
	a.Nodes = append(a.Nodes[:2:2], node(api.OpTrue), number(api.OpTimes, 0, 1, 1), node(api.OpAdd, 1, 3))
	last(t, "no one", a, api.World{}, whole(0), whole(1000*api.MaxWhole))
	a.Nodes = append(a.Nodes, node(api.OpAdd, 1, 1), node(api.OpPick, 2, 1, 5), number(api.OpTimes, 5, 1, 1))
	a.Hold = []int{2}
	run(t, "one that is not used", a, api.World{}, fault(api.ErrMuch, 5))
	a.Decls = []api.Decl{decl("p", api.SortBool, 0)}
	run(t, "a world that is none", a, api.World{}, fault(api.ErrSize, 0))
	run(t, "a value that is none", a, api.World{Means: []api.Meaning{constant(whole(2))}}, fault(api.ErrSort, 0))
	a.Hold = []int{1}
	run(t, "a query that is none", a, api.World{}, fault(api.ErrSort, 0))
}

// TestManyNodes: R5.3: the last node of a query with as many nodes as there may be.
func TestManyNodes(t *testing.T) {
	a := api.Ask{Nodes: []api.Node{number(api.OpNum, 1, 1)}}
	for i := range api.MaxNodes - 1 {
		a.Nodes = append(a.Nodes, node(api.OpAdd, i, 0))
	}
	last(t, "many nodes", a, api.World{}, whole(api.MaxNodes-1), whole(api.MaxNodes))
	for i := range 30 {
		a.Nodes[api.MaxNodes-30+i] = node(api.OpAdd, api.MaxNodes-31+i, api.MaxNodes-31+i)
	}
	run(t, "doubled until it is too large", a, api.World{}, fault(api.ErrMuch, api.MaxNodes-30+22)) // 170 doubled 22 times is below 1<<30
}
