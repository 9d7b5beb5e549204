package read_test

import (
	"reflect"
	"slices"
	"strings"
	"testing"

	"umpirage/api"
	"umpirage/read"
)

func copied(a api.Ask) api.Ask {
	a.Decls, a.Nodes, a.Hold = slices.Clone(a.Decls), slices.Clone(a.Nodes), slices.Clone(a.Hold)
	for i := range a.Decls {
		a.Decls[i].Args = slices.Clone(a.Decls[i].Args)
	}
	for i := range a.Nodes {
		a.Nodes[i].Kids = slices.Clone(a.Nodes[i].Kids)
	}
	return a
}

// wantText writes a query twice, looks whether it stays as it was, and reads what was written.
func wantText(t *testing.T, a api.Ask, want string, wantNot api.Fault) {
	t.Helper()
	before := copied(a)
	for range 2 {
		if got, not := read.Text(a); got != want || not != wantNot {
			t.Errorf("Text(%v) = %q %v, want %q %v", a, got, not, want, wantNot)
		}
	}
	if !reflect.DeepEqual(a, before) {
		t.Errorf("Text changed %v to %v", before, a)
	}
	if wantNot == fine {
		wantSame(t, want)
	}
}

// wantSame wants the query with a textual form to have this form.
func wantSame(t *testing.T, text string) {
	t.Helper()
	a, not := read.Ask(text)
	if not != fine {
		t.Errorf("Ask(%q): %v", text, not)
		return
	}
	if again, not := read.Text(a); again != text || not != fine {
		t.Errorf("Text(Ask(%q)) = %q %v", text, again, not)
	}
}

// R6.3
func TestText(t *testing.T) {
	wantText(t, api.Ask{}, "", fine)
	wantText(t, api.Ask{Decls: declared}, declarations, fine)
	p := api.Ask{Decls: []api.Decl{decl("p", api.SortBool, 0)}, Nodes: []api.Node{named("p"), node(api.OpNot, 0)}, Hold: []int{1}}
	wantText(t, p, "(decl p () bool)\n(hold (not p))\n", fine)
	for _, e := range expressions {
		wantText(t, holding(e.nodes...), declarations+"(hold "+e.text+")\n", fine)
	}
}

// R6.3: assertions in their order; nodes that are not used do not occur, and equal nodes need not be one.
func TestUsedNodes(t *testing.T) {
	a := holding(named("p"), named("q"), node(api.OpNot, 0), named("p"), node(api.OpIff, 3, 0), number(api.OpNum, 5, 1), node(api.OpNot, 1))
	for _, c := range []struct {
		hold []int
		want string
	}{
		{nil, ""},
		{[]int{0}, "(hold p)\n"},
		{[]int{4, 2, 3}, "(hold (iff p p))\n(hold (not p))\n(hold p)\n"},
		{[]int{6, 6, 1, 6}, "(hold (not q))\n(hold (not q))\n(hold q)\n(hold (not q))\n"},
		{[]int{0, 3}, "(hold p)\n(hold p)\n"},
	} {
		a.Hold = c.hold
		wantText(t, a, declarations+c.want, fine)
	}
	// neither does an unused node count that is very large, or very deep
	tower := holding(doubled(190)...)
	tower.Nodes = append(tower.Nodes, named("q"))
	tower.Hold = []int{190, 0}
	wantText(t, tower, declarations+"(hold q)\n(hold p)\n", fine)
}

// doubled is a node p and the others of n nodes, each an OpAnd of the one ahead of it, twice.
func doubled(n int) []api.Node {
	nodes := []api.Node{named("p")}
	for i := range n - 1 {
		nodes = append(nodes, node(api.OpAnd, i, i))
	}
	return nodes
}

// negated is a node p and the others of n nodes, each an OpNot of the one ahead of it.
func negated(n int) []api.Node {
	nodes := []api.Node{named("p")}
	for i := range n - 1 {
		nodes = append(nodes, node(api.OpNot, i))
	}
	return nodes
}

// ofLength is a query, and its text of so many bytes.
func ofLength(size int) (api.Ask, string) {
	const (
		long  = "(hold (and p p p p p p p p))\n"
		short = "(hold p)\n"
	)
	lines := size/len(long) - 5
	left := size - len("(decl p () bool)\n(decl  () bool)\n") - lines*len(long)
	name := strings.Repeat("x", 1+(left-1)%len(short))
	a := api.Ask{
		Decls: []api.Decl{decl("p", api.SortBool, 0), decl(name, api.SortBool, 0)},
		Nodes: []api.Node{named("p"), node(api.OpAnd, 0, 0, 0, 0, 0, 0, 0, 0)},
		Hold:  slices.Repeat([]int{1}, lines),
	}
	text := "(decl p () bool)\n(decl " + name + " () bool)\n" + strings.Repeat(long, lines)
	for len(text) < size {
		a.Hold = append(a.Hold, 0)
		text += short
	}
	return a, text
}

// R6.3: texts of as many bytes as there can be, and of one more.
func TestLongTexts(t *testing.T) {
	for size := api.MaxText - 30; size <= api.MaxText+30; size++ {
		a, text := ofLength(size)
		switch {
		case len(text) != size || len(a.Hold) > api.MaxNodes:
			t.Fatalf("%d bytes, %d assertions", len(text), len(a.Hold))
		case size > api.MaxText:
			wantText(t, a, "", fault(api.ErrMuch, 0))
		default:
			wantText(t, a, text, fine)
		}
	}
	// texts that could never be written out
	for n := 12; n <= api.MaxNodes; n++ {
		wantText(t, holding(doubled(n)...), "", fault(api.ErrMuch, 0))
	}
	wantText(t, holding(append(doubled(api.MaxNodes-1), node(api.OpAnd, 198, 198, 198, 198, 198, 198, 198, 198))...), "", fault(api.ErrMuch, 0))
	wide := []api.Node{named("p")}
	for range api.MaxNodes - 1 {
		wide = append(wide, node(api.OpOr, slices.Repeat([]int{len(wide) - 1}, api.MaxKids)...))
	}
	wantText(t, holding(wide...), "", fault(api.ErrMuch, 0))
}

// R6.3: expressions at the greatest depth, and one deeper.
func TestDeepTexts(t *testing.T) {
	inner := []struct {
		text   string
		nodes  []api.Node
		deeper int // how deep the expression is itself
	}{
		{"p", []api.Node{named("p")}, 0},
		{"true", []api.Node{node(api.OpTrue)}, 0},
		{"(and)", []api.Node{node(api.OpAnd)}, 1},
		{"(less 1 -1/2)", []api.Node{number(api.OpNum, 1, 1), number(api.OpNum, -1, 2), node(api.OpLess, 0, 1)}, 1},
		{"(less i (times 2 i))", []api.Node{named("i"), number(api.OpTimes, 2, 1, 0), node(api.OpLess, 0, 1)}, 2},
		{"(wless (wleft 1 (wleft 2 b1)) b0)", []api.Node{
			number(api.OpWord, 1, 1), number(api.OpWLeft, 2, 0, 0), number(api.OpWLeft, 1, 0, 1), number(api.OpWord, 0, 1), node(api.OpWLess, 2, 3),
		}, 3},
		{"(g t (f t))", []api.Node{named("t"), named("f", 0), named("g", 0, 1)}, 2},
	}
	for _, c := range inner {
		for nots := api.MaxNest - 6; nots <= api.MaxNest+6; nots++ {
			nodes := slices.Clone(c.nodes)
			for range nots {
				nodes = append(nodes, node(api.OpNot, len(nodes)-1))
			}
			text := declarations + "(hold " + strings.Repeat("(not ", nots) + c.text + strings.Repeat(")", nots) + ")\n"
			if 1+nots+c.deeper > api.MaxNest {
				wantText(t, holding(nodes...), "", fault(api.ErrMuch, 0))
				if _, not := read.Ask(text); not.Code != api.ErrMuch {
					t.Errorf("Ask(%q): %v", text, not)
				}
				continue
			}
			wantText(t, holding(nodes...), text, fine)
		}
	}
	for n := api.MaxNest + 1; n <= api.MaxNodes; n++ {
		wantText(t, holding(negated(n)...), "", fault(api.ErrMuch, 0))
		unused := holding(negated(n)...)
		unused.Hold = []int{0}
		wantText(t, unused, declarations+"(hold p)\n", fine)
	}
}

// R6.3: queries with errors, also with several.
func TestInvalidQueries(t *testing.T) {
	reserved := []api.Decl{decl("p", api.SortBool, 0), decl("and", api.SortBool, 0), decl("b0", api.SortBool, 0)}
	for _, c := range []struct {
		a    api.Ask
		want api.Fault
	}{
		// the error of ask.Check
		{api.Ask{Decls: make([]api.Decl, api.MaxDecls+1)}, fault(api.ErrMany, 0)},
		{api.Ask{Decls: []api.Decl{decl("p", api.SortBool, 0), decl("p", api.SortBool, 0)}}, fault(api.ErrTwice, 1)},
		{api.Ask{Decls: []api.Decl{decl("p", api.SortBool, 0), decl("", api.SortBool, 0)}}, fault(api.ErrName, 1)},
		{api.Ask{Decls: []api.Decl{decl("p", 0, 0)}}, fault(api.ErrKind, 0)},
		{api.Ask{Decls: []api.Decl{decl("p", api.SortWord, 0)}}, fault(api.ErrKind, 0)},
		{api.Ask{Decls: []api.Decl{decl("p", api.SortWord+9, 0)}}, fault(api.ErrKind, 0)},
		{api.Ask{Decls: []api.Decl{decl("p", -1, 0)}}, fault(api.ErrKind, 0)},
		{api.Ask{Decls: []api.Decl{{Name: "p", Sort: api.SortBool, Args: []int{api.SortBool}}}}, fault(api.ErrKind, 0)},
		{api.Ask{Decls: []api.Decl{decl("p", api.SortBool, 9)}}, fault(api.ErrSize, 0)},
		{api.Ask{Nodes: make([]api.Node, api.MaxNodes+1)}, fault(api.ErrMany, 0)},
		{api.Ask{Nodes: []api.Node{node(api.OpTrue), node(0)}}, fault(api.ErrKind, 1)},
		{api.Ask{Nodes: []api.Node{node(api.OpTrue), node(api.OpPut + 1)}}, fault(api.ErrKind, 1)},
		{api.Ask{Nodes: []api.Node{node(-1)}}, fault(api.ErrKind, 0)},
		{api.Ask{Nodes: []api.Node{node(api.OpNot, 0)}}, fault(api.ErrRange, 0)},
		{api.Ask{Nodes: []api.Node{node(api.OpNot)}}, fault(api.ErrSize, 0)},
		{api.Ask{Nodes: []api.Node{number(api.OpNum, 2, 4)}}, fault(api.ErrRange, 0)},
		{api.Ask{Nodes: []api.Node{number(api.OpWord, 1, 70)}}, fault(api.ErrRange, 0)},
		{api.Ask{Nodes: []api.Node{number(api.OpWord, -1, 3)}}, fault(api.ErrRange, 0)},
		{api.Ask{Nodes: []api.Node{number(api.OpTrue, 0, 1)}}, fault(api.ErrForm, 0)},
		{api.Ask{Nodes: []api.Node{named("p")}}, fault(api.ErrNone, 0)},
		{api.Ask{Nodes: []api.Node{node(api.OpTrue)}, Hold: []int{0, 1}}, fault(api.ErrRange, 1)},
		{api.Ask{Nodes: []api.Node{node(api.OpTrue)}, Hold: []int{-1}}, fault(api.ErrRange, 0)},
		{api.Ask{Nodes: []api.Node{number(api.OpNum, 1, 1)}, Hold: []int{0}}, fault(api.ErrSort, 0)},
		{api.Ask{Hold: make([]int, api.MaxNodes+1)}, fault(api.ErrMany, 0)},
		// then reserved names, also of names that are not used
		{api.Ask{Decls: reserved}, fault(api.ErrName, 1)},
		{api.Ask{Decls: reserved, Nodes: []api.Node{named("p")}, Hold: []int{0}}, fault(api.ErrName, 1)},
		{api.Ask{Decls: reserved[2:]}, fault(api.ErrName, 0)},
		// several
		{api.Ask{Decls: append(slices.Clone(reserved), decl("not", 0, 0))}, fault(api.ErrKind, 3)},
		{api.Ask{Decls: reserved, Nodes: []api.Node{node(api.OpNot)}}, fault(api.ErrSize, 0)},
		{api.Ask{Decls: reserved, Nodes: []api.Node{node(api.OpTrue)}, Hold: []int{0, 0, 1}}, fault(api.ErrRange, 2)},
		{api.Ask{Decls: reserved, Nodes: doubled(100), Hold: []int{99}}, fault(api.ErrName, 1)},
		{api.Ask{Decls: reserved, Nodes: negated(100), Hold: []int{99}}, fault(api.ErrName, 1)},
		{api.Ask{Decls: reserved[:1], Nodes: append(doubled(100), node(api.OpNot)), Hold: []int{99}}, fault(api.ErrSize, 100)},
		{api.Ask{Decls: reserved[:1], Nodes: negated(100), Hold: []int{99, 100}}, fault(api.ErrRange, 1)},
	} {
		wantText(t, c.a, "", c.want)
	}
}
