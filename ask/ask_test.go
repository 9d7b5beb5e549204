package ask_test

import (
	"math"
	"reflect"
	"slices"
	"strings"
	"testing"

	"umpirage/api"
	"umpirage/ask"
)

var fine = api.Fault{}

func fault(code, at int) api.Fault { return api.Fault{Code: code, At: at} }

// declarations with one name of each sort, a function of two things, and a predicate of a thing.
var all = []api.Decl{
	{Name: "b", Sort: api.SortBool},
	{Name: "i", Sort: api.SortInt},
	{Name: "r", Sort: api.SortReal},
	{Name: "t", Sort: api.SortThing},
	{Name: "a", Sort: api.SortArray},
	{Name: "w1", Sort: api.SortWord + 1},
	{Name: "w2", Sort: api.SortWord + 2},
	{Name: "w3", Sort: api.SortWord + 3},
	{Name: "w8", Sort: api.SortWord + 8},
	{Name: "f", Args: []int{api.SortThing, api.SortThing}, Sort: api.SortThing},
	{Name: "p", Args: []int{api.SortThing}, Sort: api.SortBool},
	{Name: "w4", Sort: api.SortWord + 4},
	{Name: "w5", Sort: api.SortWord + 5},
	{Name: "w6", Sort: api.SortWord + 6},
	{Name: "w7", Sort: api.SortWord + 7},
}

// leaves are the constants of all, as nodes; leaf tells their numbers.
var leaves = func() []api.Node {
	var l []api.Node
	for _, d := range all {
		if len(d.Args) == 0 {
			l = append(l, named(d.Name))
		}
	}
	return l
}()

func leaf(name string) int {
	return slices.IndexFunc(leaves, func(n api.Node) bool { return n.Name == name })
}

func named(name string, kids ...int) api.Node {
	return api.Node{Op: api.OpName, Name: name, Kids: kids}
}

func node(op int, kids ...int) api.Node { return api.Node{Op: op, Kids: kids} }

func number(op, n, d int, kids ...int) api.Node { return api.Node{Op: op, N: n, D: d, Kids: kids} }

// over is a query with the leaves and one more node, of the leaves with such names.
func over(n api.Node, kids string) api.Ask {
	for _, name := range strings.Fields(kids) {
		n.Kids = append(n.Kids, leaf(name))
	}
	return api.Ask{Decls: all, Nodes: append(slices.Clone(leaves), n)}
}

// check also holds Check against Sorts and Used, which return its error, and looks for changes of the query.
func check(t *testing.T, what string, a api.Ask, want api.Fault) []int {
	t.Helper()
	before := copied(a)
	got := ask.Check(a)
	if got != want {
		t.Errorf("%s: Check = %v, want %v", what, got, want)
	}
	sorts, not := ask.Sorts(a)
	used, usedNot := ask.Used(a)
	if not != got || usedNot != got {
		t.Errorf("%s: Check = %v, but Sorts %v and Used %v", what, got, not, usedNot)
	}
	if got != fine && (len(sorts) > 0 || len(used) > 0) {
		t.Errorf("%s: results beside an error: %v %v", what, sorts, used)
	}
	if got == fine && (len(sorts) != len(a.Nodes) || len(used) != len(a.Nodes)) {
		t.Errorf("%s: %d sorts and %d used of %d nodes", what, len(sorts), len(used), len(a.Nodes))
	}
	if !reflect.DeepEqual(a, before) {
		t.Errorf("%s: the query was changed", what)
	}
	return sorts
}

func copied(a api.Ask) api.Ask {
	a.Decls, a.Nodes, a.Hold = slices.Clone(a.Decls), slices.Clone(a.Nodes), slices.Clone(a.Hold)
	for i := range a.Decls {
		a.Decls[i].Args = slices.Clone(a.Decls[i].Args)
	}
	for i := range a.Nodes {
		a.Nodes[i].Kids = slices.Clone(a.Nodes[i].Kids)
	}
	return a
}

// TestNames: R4.1, R4.3: what is a name, and where a declaration's errors are.
func TestNames(t *testing.T) {
	for _, c := range []struct {
		name string
		want int
	}{
		{"a", 0}, {"Z", 0}, {"_", 0}, {"z9", 0}, {"A_0z", 0}, {"__", 0}, {"_1", 0},
		{"abcdefghijkl", 0}, {"_23456789012", 0}, {"abcdefghijklm", api.ErrName},
		{"", api.ErrName}, {"0", api.ErrName}, {"1a", api.ErrName}, {"9", api.ErrName},
		{"a-b", api.ErrName}, {"a b", api.ErrName}, {"a.", api.ErrName}, {"é", api.ErrName}, {"aé", api.ErrName},
		{"a\x00", api.ErrName}, {"a\n", api.ErrName}, {"\xff", api.ErrName},
	} {
		want := fine
		if c.want != 0 {
			want = fault(c.want, 1)
		}
		check(t, c.name, api.Ask{Decls: []api.Decl{{Name: "other", Sort: api.SortBool}, {Name: c.name, Sort: api.SortBool}}}, want)
	}
}

// TestBytes: R4.1: each byte as the first one and as a later one of a name.
func TestBytes(t *testing.T) {
	const letters = "abcdefghijklmnopqrstuvwxyzABCDEFGHIJKLMNOPQRSTUVWXYZ_"
	for c := range 256 {
		text := string([]byte{byte(c)})
		for prefix, good := range map[string]string{"": letters, "x": letters + "0123456789"} {
			want := fine
			if !strings.Contains(good, text) {
				want = fault(api.ErrName, 0)
			}
			check(t, prefix+text, api.Ask{Decls: []api.Decl{{Name: prefix + text, Sort: api.SortInt}}}, want)
		}
	}
}

// TestDecls: R4.3: sorts and arguments of declarations, and the order of their errors.
func TestDecls(t *testing.T) {
	things := func(n int) []int { return slices.Repeat([]int{api.SortThing}, n) }
	for sort := -2; sort <= 30; sort++ {
		good := sort >= 1 && sort <= 5 || sort >= 11 && sort <= 18
		for n := 0; n <= 9; n++ {
			want := fine
			switch {
			case n > 8:
				want = fault(api.ErrSize, 0)
			case !good || sort == api.SortArray && n > 0:
				want = fault(api.ErrKind, 0)
			}
			check(t, "sort", api.Ask{Decls: []api.Decl{{Name: "f", Args: things(n), Sort: sort}}}, want)
		}
		want := fault(api.ErrKind, 0)
		if sort == api.SortThing {
			want = fine
		}
		for at := range 3 {
			args := things(3)
			args[at] = sort
			check(t, "argument", api.Ask{Decls: []api.Decl{{Name: "f", Args: args, Sort: api.SortReal}}}, want)
		}
	}
	long := make([]int, 9)
	good := api.Decl{Name: "x", Sort: api.SortInt}
	for _, c := range []struct {
		what  string
		decls []api.Decl
		want  api.Fault
	}{
		{"twice", []api.Decl{good, {Name: "y", Sort: api.SortInt}, good}, fault(api.ErrTwice, 2)},
		{"twice, of different sorts", []api.Decl{good, {Name: "x", Args: things(2), Sort: api.SortThing}}, fault(api.ErrTwice, 1)},
		{"case counts", []api.Decl{good, {Name: "X", Sort: api.SortInt}}, fine},
		{"name ahead of twice", []api.Decl{{Name: "x", Sort: 1}, {Name: "1", Sort: 1}, {Name: "1", Sort: 1}}, fault(api.ErrName, 1)},
		{"name ahead of size", []api.Decl{{Name: "", Args: long, Sort: 99}}, fault(api.ErrName, 0)},
		{"twice ahead of size", []api.Decl{good, {Name: "x", Args: long, Sort: 99}}, fault(api.ErrTwice, 1)},
		{"size ahead of kind", []api.Decl{good, {Name: "y", Args: long, Sort: 99}}, fault(api.ErrSize, 1)},
		{"the first declaration first", []api.Decl{good, {Name: "y", Sort: 99}, {Name: ""}}, fault(api.ErrKind, 1)},
		{"extreme sorts", []api.Decl{{Name: "y", Sort: math.MaxInt}}, fault(api.ErrKind, 0)},
		{"extreme sorts", []api.Decl{{Name: "y", Sort: math.MinInt}}, fault(api.ErrKind, 0)},
	} {
		check(t, c.what, api.Ask{Decls: c.decls}, c.want)
	}
}

// TestMany: R4.3: MaxDecls, MaxNodes, the length of Hold and MaxKids, and one more of each.
func TestMany(t *testing.T) {
	var decls []api.Decl
	for i := range api.MaxDecls + 1 {
		decls = append(decls, api.Decl{Name: "n" + strings.Repeat("x", i%10) + string(rune('a'+i/10)), Sort: api.SortBool})
	}
	nodes := slices.Repeat([]api.Node{{Op: api.OpTrue}}, api.MaxNodes+1)
	hold := make([]int, api.MaxNodes+1)
	bad := []api.Node{{Op: 99}}
	for _, c := range []struct {
		what string
		a    api.Ask
		want api.Fault
	}{
		{"nothing", api.Ask{}, fine},
		{"MaxDecls", api.Ask{Decls: decls[:api.MaxDecls]}, fine},
		{"one more", api.Ask{Decls: decls, Nodes: bad}, fault(api.ErrMany, 0)},
		{"too many ahead of their own errors", api.Ask{Decls: make([]api.Decl, api.MaxDecls+1)}, fault(api.ErrMany, 0)},
		{"MaxNodes", api.Ask{Nodes: nodes[:api.MaxNodes]}, fine},
		{"one more", api.Ask{Nodes: nodes, Hold: []int{-1}}, fault(api.ErrMany, 0)},
		{"too many ahead of their own errors", api.Ask{Nodes: make([]api.Node, api.MaxNodes+1)}, fault(api.ErrMany, 0)},
		{"declarations ahead of many nodes", api.Ask{Decls: []api.Decl{{Name: "x", Sort: 1}, {}}, Nodes: nodes}, fault(api.ErrName, 1)},
		{"long Hold", api.Ask{Nodes: nodes[:1], Hold: hold[:api.MaxNodes]}, fine},
		{"one more", api.Ask{Nodes: nodes[:1], Hold: hold}, fault(api.ErrMany, 0)},
		{"too long ahead of its own errors", api.Ask{Hold: hold}, fault(api.ErrMany, 0)},
		{"nodes ahead of a long Hold", api.Ask{Nodes: []api.Node{{Op: api.OpTrue}, {Op: 99}}, Hold: hold}, fault(api.ErrKind, 1)},
		{"MaxKids", api.Ask{Nodes: []api.Node{{Op: api.OpTrue}, node(api.OpAnd, hold[:8]...)}}, fine},
		{"one more", api.Ask{Nodes: []api.Node{{Op: api.OpTrue}, node(api.OpAnd, hold[:9]...)}}, fault(api.ErrSize, 1)},
		{"one more", api.Ask{Nodes: []api.Node{{Op: api.OpTrue}, node(api.OpOr, hold[:9]...)}}, fault(api.ErrSize, 1)},
		{"one more", api.Ask{Nodes: []api.Node{number(api.OpNum, 1, 1), node(api.OpAdd, hold[:9]...)}}, fault(api.ErrSize, 1)},
	} {
		check(t, c.what, c.a, c.want)
	}
}

// TestNumbers: R4.3: N and D of each operator that has them, at and past each bound.
func TestNumbers(t *testing.T) {
	const most = api.MaxWhole
	for _, c := range []struct {
		n, d int
		good bool
	}{
		{0, 1, true}, {1, 1, true}, {-1, 1, true}, {1, 2, true}, {-3, 2, true}, {2, 3, true},
		{most, 1, true}, {-most, 1, true}, {1, most, true}, {most - 1, most, true}, {-most, most - 1, true},
		{most + 1, 1, false}, {-most - 1, 1, false}, {1, most + 1, false}, {most, most + 1, false},
		{1, 0, false}, {0, 0, false}, {1, -1, false}, {-1, -2, false}, {0, 2, false}, {2, 2, false}, {2, 4, false},
		{-6, 4, false}, {most, most, false}, {math.MaxInt, 1, false}, {math.MinInt, 1, false}, {1, math.MaxInt, false},
		{1, math.MinInt, false}, {math.MinInt, math.MinInt, false}, {math.MinInt, math.MaxInt, false}, {0, math.MinInt, false},
	} {
		want := fine
		if !c.good {
			want = fault(api.ErrRange, len(leaves))
		}
		check(t, "OpNum", over(number(api.OpNum, c.n, c.d), ""), want)
		check(t, "OpTimes", over(number(api.OpTimes, c.n, c.d), "i"), want)
		check(t, "OpTimes", over(number(api.OpTimes, c.n, c.d), "r"), want)
	}
	for d := -3; d <= 70; d++ {
		for n := -2; n <= 300; n++ {
			want := fault(api.ErrRange, len(leaves))
			if d >= 1 && d <= 8 && n >= 0 && n < 1<<d {
				want = fine
			}
			check(t, "OpWord", over(number(api.OpWord, n, d), ""), want)
		}
	}
	for _, n := range []int{math.MinInt, -1, 0, 1, 8, 9, 10, math.MaxInt} {
		want := fine
		if n < 0 || n > 8 {
			want = fault(api.ErrRange, len(leaves))
		}
		for _, word := range []string{"w1", "w3", "w8"} {
			check(t, "OpWLeft", over(number(api.OpWLeft, n, 0), word), want)
		}
	}
	for _, extreme := range []int{math.MinInt, math.MaxInt} {
		check(t, "OpWord", over(number(api.OpWord, extreme, 8), ""), fault(api.ErrRange, len(leaves)))
		check(t, "OpWord", over(number(api.OpWord, 0, extreme), ""), fault(api.ErrRange, len(leaves)))
	}
}

// TestForm: R4.3: names and numbers that an operator does not have.
func TestForm(t *testing.T) {
	kids := map[int]string{
		api.OpTrue: "", api.OpFalse: "", api.OpNot: "b", api.OpAnd: "b b b", api.OpOr: "", api.OpIff: "b b", api.OpPick: "b i i",
		api.OpSame: "i r", api.OpName: "t t", api.OpNum: "", api.OpAdd: "i r", api.OpTimes: "i", api.OpLess: "i r",
		api.OpMost: "r i", api.OpWord: "", api.OpWNot: "w2", api.OpWAnd: "w2 w2", api.OpWOr: "w2 w2", api.OpWXor: "w2 w2",
		api.OpWAdd: "w2 w2", api.OpWTimes: "w2 w2", api.OpWLess: "w2 w2", api.OpWLeft: "w2", api.OpGet: "a t", api.OpPut: "a t t",
	}
	hasN := []int{api.OpNum, api.OpTimes, api.OpWord, api.OpWLeft}
	hasD := []int{api.OpNum, api.OpTimes, api.OpWord}
	for op := api.OpTrue; op <= api.OpPut; op++ {
		good := api.Node{Op: op}
		if op == api.OpName {
			good.Name = "f"
		}
		if slices.Contains(hasD, op) {
			good.D = 1
		}
		check(t, "good", over(good, kids[op]), fine)
		wrong := func(what string, change func(n *api.Node), allowed bool) {
			n, want := good, fault(api.ErrForm, len(leaves))
			change(&n)
			if allowed {
				want = fine
			}
			check(t, what, over(n, kids[op]), want)
		}
		if op != api.OpName {
			wrong("a name", func(n *api.Node) { n.Name = "f" }, false)
			wrong("a name that is none", func(n *api.Node) { n.Name = "?" }, false)
		}
		wrong("N", func(n *api.Node) { n.N = 1 }, slices.Contains(hasN, op))
		if !slices.Contains(hasN, op) {
			wrong("N", func(n *api.Node) { n.N = -1 }, false)
		}
		wrong("D", func(n *api.Node) { n.D = 1 }, slices.Contains(hasD, op))
		if !slices.Contains(hasD, op) {
			wrong("D", func(n *api.Node) { n.D = math.MinInt }, false)
		}
	}
}

// TestKids: R4.3: children that are not earlier nodes.
func TestKids(t *testing.T) {
	last := len(leaves)
	for _, kid := range []int{last, last + 1, -1, math.MaxInt, math.MinInt} {
		for at := range 3 {
			kids := []int{0, 0, 0}
			kids[at] = kid
			check(t, "child", over(node(api.OpAnd, kids...), ""), fault(api.ErrRange, last))
		}
	}
	check(t, "itself", api.Ask{Nodes: []api.Node{node(api.OpNot, 0)}}, fault(api.ErrRange, 0))
	check(t, "a later one", api.Ask{Nodes: []api.Node{node(api.OpNot, 1), {Op: api.OpTrue}}}, fault(api.ErrRange, 0))
	check(t, "the last one", api.Ask{Nodes: []api.Node{{Op: api.OpTrue}, node(api.OpNot, 0), node(api.OpNot, 1)}}, fine)
}

// TestOrder: R4.3: the errors of a node come in the chapter's order, and those of earlier nodes first.
func TestOrder(t *testing.T) {
	last := len(leaves)
	for _, c := range []struct {
		what string
		n    api.Node
		want int
	}{
		{"kind ahead of all", api.Node{Op: 0, Kids: []int{99}, N: 1, D: 1, Name: "none"}, api.ErrKind},
		{"kind ahead of all", api.Node{Op: 26, Kids: make([]int, 9), N: 1, D: 1, Name: "none"}, api.ErrKind},
		{"kind", api.Node{Op: -1}, api.ErrKind},
		{"kind", api.Node{Op: math.MaxInt}, api.ErrKind},
		{"kind", api.Node{Op: math.MinInt}, api.ErrKind},
		{"none ahead of size", api.Node{Op: api.OpName, Kids: make([]int, 9), N: 1, Name: "none"}, api.ErrNone},
		{"none", named(""), api.ErrNone},
		{"none ahead of range", named("g", -1), api.ErrNone},
		{"size ahead of range", api.Node{Op: api.OpName, Kids: []int{-1}, N: 1, Name: "f"}, api.ErrSize},
		{"size ahead of range", api.Node{Op: api.OpNot, Kids: []int{-1, -1}, N: 1}, api.ErrSize},
		{"size ahead of range", api.Node{Op: api.OpAnd, Kids: slices.Repeat([]int{-1}, 9), N: 1}, api.ErrSize},
		{"size ahead of sort", named("b", 0), api.ErrSize},
		{"range ahead of form", api.Node{Op: api.OpNot, Kids: []int{last}, N: 1, D: 1, Name: "x"}, api.ErrRange},
		{"range ahead of form", api.Node{Op: api.OpName, Kids: []int{last, 0}, N: 1, Name: "f"}, api.ErrRange},
		{"form ahead of numbers", api.Node{Op: api.OpNum, D: -1, Name: "x"}, api.ErrForm},
		{"form ahead of numbers", api.Node{Op: api.OpWLeft, N: 99, D: 1, Kids: []int{0}}, api.ErrForm},
		{"form ahead of sort", api.Node{Op: api.OpNot, N: 1, Kids: []int{leaf("i")}}, api.ErrForm},
		{"form ahead of sort", api.Node{Op: api.OpName, Name: "p", D: 1, Kids: []int{leaf("i")}}, api.ErrForm},
		{"numbers ahead of sort", api.Node{Op: api.OpTimes, N: 2, D: 2, Kids: []int{leaf("b")}}, api.ErrRange},
		{"numbers ahead of sort", api.Node{Op: api.OpWLeft, N: 9, Kids: []int{leaf("b")}}, api.ErrRange},
		{"sort", api.Node{Op: api.OpWLeft, N: 8, Kids: []int{leaf("b")}}, api.ErrSort},
	} {
		a := over(c.n, "")
		check(t, c.what, a, fault(c.want, last))
		a.Nodes = append(a.Nodes, api.Node{Op: 77})
		a.Hold = []int{-1}
		check(t, c.what+", and more", a, fault(c.want, last))
	}
}

// TestHold: R4.3: which nodes may be asserted.
func TestHold(t *testing.T) {
	a := over(node(api.OpIff), "b b")
	for i, n := range a.Nodes {
		want := fault(api.ErrSort, 1)
		if n.Name == "b" || n.Op == api.OpIff {
			want = fine
		}
		a.Hold = []int{len(leaves), i, len(leaves)}
		check(t, n.Name, a, want)
	}
	for _, bad := range []int{-1, len(a.Nodes), math.MaxInt, math.MinInt} {
		a.Hold = []int{0, 0, 0, bad, 1}
		check(t, "no node", a, fault(api.ErrRange, 3))
	}
	a.Hold = []int{0, leaf("i"), -1}
	check(t, "the first one first", a, fault(api.ErrSort, 1))
	check(t, "no nodes", api.Ask{Hold: []int{0}}, fault(api.ErrRange, 0))
}

// TestSorts: R4.4: the sorts of a query with nodes of many kinds, which are new memory.
func TestSorts(t *testing.T) {
	a := api.Ask{Decls: all, Nodes: []api.Node{
		{Op: api.OpTrue}, number(api.OpNum, 1, 2), number(api.OpNum, -3, 1), number(api.OpTimes, 2, 1, 2),
		number(api.OpTimes, 1, 2, 2), node(api.OpAdd), node(api.OpAdd, 2, 3), node(api.OpAdd, 2, 1), node(api.OpSame, 1, 2),
		named("t"), named("f", 9, 9), named("p", 10), named("a"), node(api.OpGet, 12, 9), node(api.OpPut, 12, 9, 13),
		number(api.OpWord, 5, 3), node(api.OpWNot, 15), number(api.OpWLeft, 8, 0, 16), node(api.OpWLess, 15, 17),
		node(api.OpPick, 18, 15, 17), node(api.OpPick, 8, 2, 3), number(api.OpTimes, 3, 1, 1),
	}, Hold: []int{8, 8, 0}}
	want := []int{1, 3, 2, 2, 3, 2, 2, 3, 1, 4, 4, 1, 5, 4, 5, 13, 13, 13, 1, 13, 2, 3}
	got := check(t, "sorts", a, fine)
	if !slices.Equal(got, want) {
		t.Fatalf("Sorts = %v, want %v", got, want)
	}
	clear(got)
	if again, _ := ask.Sorts(a); !slices.Equal(again, want) {
		t.Errorf("Sorts again = %v, want %v", again, want)
	}
	if one, _ := ask.Sorts(api.Ask{Nodes: []api.Node{{Op: api.OpTrue}}}); !slices.Equal(one, []int{api.SortBool}) {
		t.Errorf("Sorts of OpTrue = %v", one)
	}
}

// TestUsed: R4.5: asserted nodes, their children, and what these use.
func TestUsed(t *testing.T) {
	nodes := []api.Node{
		named("b"), named("i"), named("r"), node(api.OpLess, 1, 2), node(api.OpNot, 0), node(api.OpOr, 3, 3), node(api.OpNot, 4),
	}
	for _, c := range []struct {
		hold []int
		want string
	}{
		{nil, "-------"},
		{[]int{0}, "x------"},
		{[]int{3}, "-xxx---"},
		{[]int{4}, "x---x--"},
		{[]int{5, 5}, "-xxx-x-"},
		{[]int{6}, "x---x-x"},
		{[]int{4, 3}, "xxxxx--"},
		{[]int{6, 0, 5}, "xxxxxxx"},
	} {
		used, not := ask.Used(api.Ask{Decls: all, Nodes: nodes, Hold: c.hold})
		got := ""
		for _, u := range used {
			got += map[bool]string{false: "-", true: "x"}[u]
		}
		if got != c.want || not != fine {
			t.Errorf("Used of %v = %s %v, want %s", c.hold, got, not, c.want)
		}
	}
}

// TestExamples: the chapter's examples.
func TestExamples(t *testing.T) {
	check(t, "OpNot without children", api.Ask{Nodes: []api.Node{{Op: api.OpNot}}}, fault(api.ErrSize, 0))
	used, _ := ask.Used(api.Ask{Nodes: []api.Node{{Op: api.OpTrue}, {Op: api.OpFalse}}})
	if !slices.Equal(used, []bool{false, false}) {
		t.Errorf("without assertions: Used = %v", used)
	}
}
