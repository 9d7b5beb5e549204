package simple_test

import (
	"math"
	"slices"
	"strconv"
	"testing"

	"umpirage/api"
	"umpirage/ask"
	"umpirage/simple"
)

// pq are two Bools, as declarations and as the first nodes of a query.
func pq(hold []int, nodes ...api.Node) api.Ask {
	return api.Ask{
		Decls: []api.Decl{{Name: "p", Sort: api.SortBool}, {Name: "q", Sort: api.SortBool}},
		Nodes: append([]api.Node{named("p"), named("q")}, nodes...),
		Hold:  hold,
	}
}

// R8.3
func TestExamples(t *testing.T) {
	wantNodes(t, api.Ask{Nodes: []api.Node{node(api.OpFalse), node(api.OpNot, 0)}, Hold: []int{1}}, nil)
	wantNodes(t, api.Ask{}, nil)
	wantNodes(t, api.Ask{Nodes: []api.Node{}, Hold: []int{}, Decls: []api.Decl{}}, nil)
	wantNodes(t, api.Ask{Nodes: []api.Node{node(api.OpTrue)}, Hold: []int{0}}, nil)
	wantNodes(t, api.Ask{Nodes: []api.Node{node(api.OpFalse)}, Hold: []int{0}}, []api.Node{node(api.OpFalse)}, 0)
}

// R8.1: assertions in their order, each once, without OpTrue.
func TestAssertions(t *testing.T) {
	p, q := named("p"), named("q")
	for _, c := range []struct {
		hold  []int
		nodes []api.Node
		left  []int
	}{
		{nil, nil, nil},
		{[]int{0}, []api.Node{p}, []int{0}},
		{[]int{1}, []api.Node{q}, []int{0}},
		{[]int{0, 1}, []api.Node{p, q}, []int{0, 1}},
		{[]int{1, 0}, []api.Node{p, q}, []int{1, 0}},
		{[]int{1, 0, 1, 1, 0}, []api.Node{p, q}, []int{1, 0}},
		{[]int{2}, nil, nil},                                  // true
		{[]int{2, 2}, nil, nil},                               //
		{[]int{2, 1, 2, 0, 2}, []api.Node{p, q}, []int{1, 0}}, //
		{[]int{6}, nil, nil},                                  // becomes true
		{[]int{6, 0, 2}, []api.Node{p}, []int{0}},
		{[]int{3}, []api.Node{node(api.OpFalse)}, []int{0}}, // becomes false
		{[]int{3, 3}, []api.Node{node(api.OpFalse)}, []int{0}},
		{[]int{0, 3, 1}, []api.Node{node(api.OpFalse)}, []int{0}},
		{[]int{2, 3}, []api.Node{node(api.OpFalse)}, []int{0}},
		{[]int{0, 1, 2, 7}, []api.Node{node(api.OpFalse)}, []int{0}},
		{[]int{5, 0}, []api.Node{p}, []int{0}}, // becomes p
		{[]int{0, 1, 5}, []api.Node{p, q}, []int{0, 1}},
		{[]int{5, 1, 0}, []api.Node{p, q}, []int{0, 1}},
		{[]int{4, 0}, []api.Node{p, node(api.OpNot, 0)}, []int{1, 0}}, // p and not p: no rule
		{[]int{8, 9}, []api.Node{p, q, node(api.OpAnd, 0, 1)}, []int{2}},
		{[]int{9, 8, 0}, []api.Node{p, q, node(api.OpAnd, 0, 1)}, []int{2, 0}},
	} {
		a := pq(c.hold,
			node(api.OpTrue),          // 2
			node(api.OpNot, 2),        // 3: false
			node(api.OpNot, 0),        // 4
			node(api.OpNot, 4),        // 5: p
			node(api.OpIff, 5, 0),     // 6: true
			node(api.OpAnd, 0, 4),     // 7: false
			node(api.OpAnd, 0, 1),     // 8
			node(api.OpPick, 2, 8, 3), // 9: 8
		)
		wantNodes(t, a, c.nodes, c.left...)
	}
}

// R8.1: equal nodes become one; nodes stand in the order in which they were made first.
func TestEqualNodes(t *testing.T) {
	a := pq([]int{7, 8}, named("q"), named("p"), // 2, 3
		node(api.OpNot, 2), node(api.OpNot, 1), // 4, 5
		node(api.OpOr, 3, 4), node(api.OpIff, 6, 3), // 6, 7
		node(api.OpOr, 5, 0)) // 8
	wantNodes(t, a, []api.Node{named("p"), named("q"), node(api.OpNot, 1), node(api.OpOr, 0, 2), node(api.OpIff, 3, 0), node(api.OpOr, 2, 0)}, 4, 5)
	a.Hold = []int{7} // without the first two nodes
	wantNodes(t, a, []api.Node{named("q"), named("p"), node(api.OpNot, 0), node(api.OpOr, 1, 2), node(api.OpIff, 3, 1)}, 4)
	b := pq([]int{8, 9}, named("q"), named("p"), node(api.OpNot, 2), node(api.OpNot, 1),
		node(api.OpIff, 0, 4), node(api.OpIff, 3, 5), // 6, 7
		node(api.OpOr, 6, 4, 7), node(api.OpOr, 7, 5)) // 8, 9
	wantNodes(t, b, []api.Node{named("p"), named("q"), node(api.OpNot, 1), node(api.OpIff, 0, 2), node(api.OpOr, 3, 2)}, 4)
}

// R8.1: nodes differ if their operators, numbers, names or children do.
func TestUnequalNodes(t *testing.T) {
	decls := []api.Decl{{Name: "x", Sort: api.SortReal}, {Name: "y", Sort: api.SortReal}, {Name: "v", Sort: api.SortWord + 2}}
	nodes := []api.Node{named("x"), named("y"), named("v"), number(api.OpTimes, 2, 3, 0), number(api.OpTimes, 2, 5, 0), number(api.OpTimes, 4, 3, 0),
		number(api.OpTimes, 2, 3, 1), number(api.OpNum, 2, 3), number(api.OpNum, 2, 5), number(api.OpNum, 4, 3), number(api.OpWord, 1, 2),
		number(api.OpWLeft, 1, 0, 2), number(api.OpWLeft, 2, 0, 2), node(api.OpAdd, 3, 4, 5, 6, 7, 8, 9, 0), node(api.OpLess, 13, 1), node(api.OpMost, 13, 1),
		node(api.OpLess, 1, 13), node(api.OpWXor, 11, 12), node(api.OpWAnd, 11, 12), node(api.OpSame, 17, 10), node(api.OpSame, 18, 10),
		node(api.OpAdd, 0, 1), node(api.OpAdd, 0, 1, 0), node(api.OpSame, 21, 22)}
	hold := []int{14, 15, 16, 19, 20, 23}
	wantNodes(t, api.Ask{Decls: decls, Nodes: nodes, Hold: hold}, nodes, hold...)
}

// R8.1: nodes that are not used are left out, those that no longer are too.
func TestUnused(t *testing.T) {
	p, q := named("p"), named("q")
	wantNodes(t, pq([]int{1}, node(api.OpNot, 1)), []api.Node{q}, 0)
	wantNodes(t, pq([]int{3}, node(api.OpTrue), node(api.OpAnd, 1, 2)), []api.Node{q}, 0)
	wantNodes(t, pq([]int{4}, node(api.OpNot, 1), node(api.OpNot, 0), node(api.OpNot, 2)), []api.Node{q}, 0)
	wantNodes(t, pq([]int{4}, node(api.OpNot, 0), node(api.OpAnd, 0, 2), node(api.OpPick, 3, 0, 1)), []api.Node{q}, 0)
	wantNodes(t, pq([]int{5}, node(api.OpFalse), node(api.OpNot, 0), node(api.OpOr, 1, 2, 3), node(api.OpAnd, 4, 3)),
		[]api.Node{p, q, node(api.OpNot, 0), node(api.OpOr, 1, 2), node(api.OpAnd, 3, 2)}, 4)
	// A node made for a child that is used no longer is used by another.
	wantNodes(t, pq([]int{6}, node(api.OpNot, 1), node(api.OpTrue), node(api.OpPick, 3, 0, 2), node(api.OpNot, 1), node(api.OpOr, 4, 5)),
		[]api.Node{p, q, node(api.OpNot, 1), node(api.OpOr, 0, 2)}, 3)
}

// R8.1: declarations stay, used or not.
func TestDeclarations(t *testing.T) {
	var decls []api.Decl
	for k := range api.MaxDecls {
		decls = append(decls, api.Decl{Name: "d" + strconv.Itoa(k), Args: slices.Repeat([]int{api.SortThing}, k%(api.MaxKids+1)), Sort: 1 + k%4})
	}
	wantNodes(t, api.Ask{Decls: decls}, nil)
	wantNodes(t, api.Ask{Decls: decls, Nodes: []api.Node{node(api.OpFalse)}, Hold: []int{0}}, []api.Node{node(api.OpFalse)}, 0)
	wantNodes(t, api.Ask{Decls: decls, Nodes: []api.Node{named("d0")}, Hold: []int{0}}, []api.Node{named("d0")}, 0)
}

// R8.3: as many nodes, children and assertions as there may be.
func TestLimits(t *testing.T) {
	chain := pq(nil)
	for k := len(chain.Nodes); k < api.MaxNodes; k++ {
		chain.Nodes = append(chain.Nodes, node(api.OpIff, k-1, k-2))
	}
	for k := range api.MaxNodes {
		chain.Hold = append(chain.Hold, api.MaxNodes-1-k)
	}
	wantNodes(t, chain, chain.Nodes, chain.Hold...)

	nots := pq(nil)
	for k := len(nots.Nodes); k < api.MaxNodes; k++ {
		nots.Nodes = append(nots.Nodes, node(api.OpNot, k-1))
	}
	nots.Hold = []int{api.MaxNodes - 1, api.MaxNodes - 3}
	wantNodes(t, nots, []api.Node{named("q")}, 0)
	nots.Hold[0]--
	nots.Hold[1]--
	wantNodes(t, nots, []api.Node{named("q"), node(api.OpNot, 0)}, 1)

	ands := pq(nil)
	for k := len(ands.Nodes); k < api.MaxNodes; k++ {
		ands.Nodes = append(ands.Nodes, node(api.OpAnd, slices.Repeat([]int{k - 1}, api.MaxKids)...))
	}
	ands.Hold = slices.Repeat([]int{api.MaxNodes - 1}, api.MaxNodes)
	wantNodes(t, ands, []api.Node{named("q")}, 0)
}

// spoilt are queries with errors, some with several.
func spoilt() []struct {
	a    api.Ask
	want api.Fault
} {
	many := make([]api.Decl, api.MaxDecls+1)
	long := make([]api.Node, api.MaxNodes+1)
	holds := make([]int, api.MaxNodes+1)
	for k := range long {
		long[k] = node(api.OpTrue)
	}
	return []struct {
		a    api.Ask
		want api.Fault
	}{
		{api.Ask{Decls: many, Nodes: long, Hold: holds}, fault(api.ErrMany, 0)},
		{api.Ask{Decls: []api.Decl{{Name: "p", Sort: 1}, {Sort: 99}}, Nodes: long}, fault(api.ErrName, 1)},
		{api.Ask{Decls: []api.Decl{{Name: "p", Sort: 1}, {Name: "p", Sort: 99}}}, fault(api.ErrTwice, 1)},
		{api.Ask{Decls: []api.Decl{{Name: "p", Sort: 6}}, Hold: []int{5}}, fault(api.ErrKind, 0)},
		{api.Ask{Decls: []api.Decl{{Name: "p", Sort: 6, Args: make([]int, api.MaxKids+1)}}}, fault(api.ErrSize, 0)},
		{api.Ask{Nodes: long, Hold: holds}, fault(api.ErrMany, 0)},
		{api.Ask{Nodes: []api.Node{{}}}, fault(api.ErrKind, 0)},
		{api.Ask{Nodes: []api.Node{node(api.OpTrue), node(26)}, Hold: []int{-1}}, fault(api.ErrKind, 1)},
		{api.Ask{Nodes: []api.Node{named("p")}, Hold: []int{0}}, fault(api.ErrNone, 0)},
		{api.Ask{Nodes: []api.Node{node(api.OpNot)}}, fault(api.ErrSize, 0)},
		{api.Ask{Nodes: []api.Node{node(api.OpTrue), node(api.OpAnd, 0, 0, 0, 0, 0, 0, 0, 0, 7)}}, fault(api.ErrSize, 1)},
		{api.Ask{Nodes: []api.Node{node(api.OpNot, 0), node(api.OpNot, 5)}}, fault(api.ErrRange, 0)},
		{api.Ask{Nodes: []api.Node{node(api.OpTrue), number(api.OpNot, 1, 1, 0)}, Hold: []int{9}}, fault(api.ErrForm, 1)},
		{api.Ask{Nodes: []api.Node{number(api.OpNum, 2, 4)}, Hold: []int{0}}, fault(api.ErrRange, 0)},
		{api.Ask{Nodes: []api.Node{number(api.OpNum, api.MaxWhole+1, 1)}}, fault(api.ErrRange, 0)},
		{api.Ask{Nodes: []api.Node{number(api.OpWord, 2, 1), node(0)}}, fault(api.ErrRange, 0)},
		{api.Ask{Nodes: []api.Node{number(api.OpNum, 1, 1), node(api.OpNot, 0), node(0)}}, fault(api.ErrSort, 1)},
		{api.Ask{Nodes: []api.Node{node(api.OpTrue)}, Hold: holds}, fault(api.ErrMany, 0)},
		{api.Ask{Nodes: []api.Node{node(api.OpTrue)}, Hold: []int{0, 1, -1}}, fault(api.ErrRange, 1)},
		{api.Ask{Nodes: []api.Node{node(api.OpTrue)}, Hold: []int{0, math.MinInt}}, fault(api.ErrRange, 1)},
		{api.Ask{Nodes: []api.Node{number(api.OpNum, 1, 1), node(api.OpTrue)}, Hold: []int{1, 0, 2}}, fault(api.ErrSort, 1)},
	}
}

// R8.3: the errors of ask.Check.
func TestFaults(t *testing.T) {
	for _, c := range spoilt() {
		got, not := simple.Do(c.a)
		if not != c.want || not != ask.Check(c.a) || got.Decls != nil || got.Nodes != nil || got.Hold != nil {
			t.Errorf("%v: got %v %v, want %v", c.a, got, not, c.want)
		}
	}
}

// parts are the lists of numbers of a query.
func parts(a api.Ask) [][]int {
	l := [][]int{a.Hold}
	for _, d := range a.Decls {
		l = append(l, d.Args)
	}
	for _, n := range a.Nodes {
		l = append(l, n.Kids)
	}
	return l
}

// P1: a result shares no memory with the query, and no two of its lists share any.
func TestMemory(t *testing.T) {
	a := pq([]int{4, 5, 6, 7}, node(api.OpOr, 0, 1), node(api.OpNot, 2), node(api.OpAnd, 3, 0), node(api.OpAnd, 4, 1), node(api.OpIff, 5, 4), node(api.OpAnd, 5))
	a.Decls = append(a.Decls, api.Decl{Name: "f", Args: []int{api.SortThing, api.SortThing}, Sort: api.SortBool})
	got := simplified(t, a)
	lists := append(parts(a), parts(got)...)
	var before [][]int
	for _, l := range lists {
		before = append(before, slices.Clone(l[:cap(l)]))
	}
	for i, l := range lists {
		for k := range l[:cap(l)] {
			l[:cap(l)][k] = 77
		}
		for j, other := range lists {
			if j != i && !slices.Equal(other[:cap(other)], before[j]) {
				t.Errorf("%v shares memory with %v", before[i], before[j])
			}
		}
		copy(l[:cap(l)], before[i])
	}
	got.Decls[0].Name, got.Nodes[0].Op = "changed", 99
	if a.Decls[0].Name != "p" || a.Nodes[0].Op != api.OpName {
		t.Error("the query changed with the result")
	}
}
