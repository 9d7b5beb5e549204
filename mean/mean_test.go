package mean_test

import (
	"reflect"
	"slices"
	"testing"

	"umpirage/api"
	"umpirage/ask"
	"umpirage/mean"
)

const (
	top    = api.MaxNum
	things = api.MaxThing
)

var fine = api.Fault{}

func fault(code, at int) api.Fault { return api.Fault{Code: code, At: at} }

func node(op int, kids ...int) api.Node { return api.Node{Op: op, Kids: kids} }

func named(name string, kids ...int) api.Node {
	return api.Node{Op: api.OpName, Name: name, Kids: kids}
}

func number(op, n, d int, kids ...int) api.Node { return api.Node{Op: op, N: n, D: d, Kids: kids} }

// num is the fraction n/d as a value; whole is n.
func num(n, d int) api.Value { return api.Value{Num: api.Frac{Num: n, Den: d}} }

func whole(n int) api.Value { return num(n, 1) }

// array has pairs of a thing and what is there.
func array(rest int, pairs ...int) api.Value {
	v := api.Value{Rest: rest}
	for i := 0; i < len(pairs); i += 2 {
		v.Cells = append(v.Cells, api.Cell{At: pairs[i], It: pairs[i+1]})
	}
	return v
}

// entry is a row with a value behind its arguments.
func entry(to api.Value, args ...int) api.Entry { return api.Entry{Args: args, To: to} }

func constant(v api.Value) api.Meaning { return api.Meaning{Rest: v} }

func table(rest api.Value, rows ...api.Entry) api.Meaning { return api.Meaning{Rest: rest, Rows: rows} }

func decl(name string, sort int, args int) api.Decl {
	return api.Decl{Name: name, Sort: sort, Args: slices.Repeat([]int{api.SortThing}, args)}
}

// names are constants of sorts, called a, b, c and so on, each followed by a node of it; values are what they are.
func names(sorts []int, values ...api.Value) (api.Ask, api.World) {
	var a api.Ask
	var w api.World
	for i, sort := range sorts {
		name := string(rune('a' + i))
		a.Decls = append(a.Decls, decl(name, sort, 0))
		a.Nodes = append(a.Nodes, named(name))
		w.Means = append(w.Means, constant(values[i]))
	}
	return a, w
}

// run calls all functions with a query and a world; it holds their faults against each other, and looks
// for changes of the arguments, for results beside faults, and for memory that is shared.
func run(t *testing.T, what string, a api.Ask, w api.World, want api.Fault) []api.Value {
	t.Helper()
	before, beforeWorld := copiedAsk(a), copiedWorld(w)
	values, not := mean.Value(a, w)
	if not != want {
		t.Errorf("%s: Value = %v, want %v", what, not, want)
	}
	if (not == fine && len(values) != len(a.Nodes)) || (not != fine && len(values) > 0) {
		t.Errorf("%s: %d values of %d nodes, with %v", what, len(values), len(a.Nodes), not)
	}
	holds, holdsNot := mean.Holds(a, w)
	if holdsNot != not || not != fine && holds {
		t.Errorf("%s: Value = %v, but Holds = %v %v", what, not, holds, holdsNot)
	}
	if not == fine {
		wantHolds := true
		for _, n := range a.Hold {
			wantHolds = wantHolds && values[n].Num.Num == 1
		}
		if holds != wantHolds {
			t.Errorf("%s: Holds = %v, of the values %v at %v", what, holds, values, a.Hold)
		}
	}
	wantCheck := want
	if want.Code == api.ErrMuch {
		wantCheck = fine
	}
	if got := mean.Check(a, w); got != wantCheck {
		t.Errorf("%s: Check = %v, want %v", what, got, wantCheck)
	}
	if !reflect.DeepEqual(a, before) || !reflect.DeepEqual(w, beforeWorld) {
		t.Errorf("%s: an argument was changed", what)
	}
	shares(t, what, values, w)
	return values
}

// shares looks for cells that stand in two values, or in a value and the world.
func shares(t *testing.T, what string, values []api.Value, w api.World) {
	t.Helper()
	seen := map[*api.Cell]bool{}
	for _, m := range w.Means {
		for _, v := range append([]api.Value{m.Rest}, tos(m)...) {
			for i := range v.Cells[:cap(v.Cells)] {
				seen[&v.Cells[:cap(v.Cells)][i]] = true
			}
		}
	}
	for _, v := range values {
		for i := range v.Cells[:cap(v.Cells)] {
			cell := &v.Cells[:cap(v.Cells)][i]
			if seen[cell] {
				t.Fatalf("%s: shared memory", what)
			}
			seen[cell] = true
		}
	}
}

func tos(m api.Meaning) []api.Value {
	var l []api.Value
	for _, r := range m.Rows {
		l = append(l, r.To)
	}
	return l
}

func copiedAsk(a api.Ask) api.Ask {
	a.Decls, a.Nodes, a.Hold = slices.Clone(a.Decls), slices.Clone(a.Nodes), slices.Clone(a.Hold)
	for i := range a.Decls {
		a.Decls[i].Args = slices.Clone(a.Decls[i].Args)
	}
	for i := range a.Nodes {
		a.Nodes[i].Kids = slices.Clone(a.Nodes[i].Kids)
	}
	return a
}

func copiedWorld(w api.World) api.World {
	w.Means = slices.Clone(w.Means)
	for i := range w.Means {
		m := &w.Means[i]
		m.Rest.Cells = slices.Clone(m.Rest.Cells)
		m.Rows = slices.Clone(m.Rows)
		for k := range m.Rows {
			m.Rows[k].Args = slices.Clone(m.Rows[k].Args)
			m.Rows[k].To.Cells = slices.Clone(m.Rows[k].To.Cells)
		}
	}
	return w
}

func equal(a, b api.Value) bool {
	return a.Num == b.Num && a.Rest == b.Rest && slices.Equal(a.Cells, b.Cells)
}

// last wants that the last nodes of a query have such values.
func last(t *testing.T, what string, a api.Ask, w api.World, want ...api.Value) {
	t.Helper()
	values := run(t, what, a, w, fine)
	if len(values) < len(want) {
		return
	}
	if got := values[len(values)-len(want):]; !slices.EqualFunc(got, want, equal) {
		t.Errorf("%s: the last values are %v, want %v", what, got, want)
	}
}

// of wants the value of a node whose children are constants of sorts with values; their numbers are put in.
func of(t *testing.T, what string, n api.Node, want api.Value, sorts []int, values ...api.Value) {
	t.Helper()
	a, w := names(sorts, values...)
	for i := range sorts {
		n.Kids = append(n.Kids, i)
	}
	a.Nodes = append(a.Nodes, n)
	last(t, what, a, w, want)
}

// TestExamples: the chapter's examples.
func TestExamples(t *testing.T) {
	half := api.Ask{Nodes: []api.Node{number(api.OpNum, 1, 2), node(api.OpAdd, 0, 0)}}
	last(t, "1/2 + 1/2", half, api.World{}, num(1, 2), whole(1))
	run(t, "a world without meanings", api.Ask{Decls: []api.Decl{decl("p", api.SortBool, 0)}}, api.World{}, fault(api.ErrSize, 0))
	run(t, "nothing", api.Ask{}, api.World{}, fine)
	if holds, not := mean.Holds(api.Ask{}, api.World{}); !holds || not != fine {
		t.Errorf("a query without assertions: Holds = %v %v", holds, not)
	}
}

// bools are all lists of n Bools, and how many of each are true.
func bools(n int) map[int][]api.Value {
	out := map[int][]api.Value{}
	for bits := range 1 << n {
		for i := range n {
			out[bits] = append(out[bits], whole(bits>>i&1))
		}
		if n == 0 {
			out[bits] = nil
		}
	}
	return out
}

func asValue(b bool) api.Value {
	if b {
		return whole(1)
	}
	return whole(0)
}

// TestBooleans: R5.3: all Boolean operators, of all values of up to eight children.
func TestBooleans(t *testing.T) {
	of(t, "true", node(api.OpTrue), whole(1), nil)
	of(t, "false", node(api.OpFalse), whole(0), nil)
	for n := range api.MaxKids + 1 {
		for bits, values := range bools(n) {
			sorts := slices.Repeat([]int{api.SortBool}, n)
			of(t, "and", node(api.OpAnd), asValue(bits == 1<<n-1), sorts, values...)
			of(t, "or", node(api.OpOr), asValue(bits > 0), sorts, values...)
			switch n {
			case 1:
				of(t, "not", node(api.OpNot), asValue(bits == 0), sorts, values...)
			case 2:
				of(t, "iff", node(api.OpIff), asValue(bits == 0 || bits == 3), sorts, values...)
			case 3:
				of(t, "pick", node(api.OpPick), values[2-bits&1], sorts, values...)
			}
		}
	}
}

// TestPick: R5.3: choices of every sort.
func TestPick(t *testing.T) {
	for sort, pair := range map[int][2]api.Value{
		api.SortBool: {whole(1), whole(0)}, api.SortInt: {whole(-top), whole(7)}, api.SortReal: {num(-1, top), num(5, 3)},
		api.SortThing: {whole(0), whole(things)}, api.SortWord + 1: {whole(0), whole(1)}, api.SortWord + 8: {whole(255), whole(1)},
	} {
		sorts := []int{api.SortBool, sort, sort}
		of(t, "pick if true", node(api.OpPick), pair[0], sorts, whole(1), pair[0], pair[1])
		of(t, "pick if false", node(api.OpPick), pair[1], sorts, whole(0), pair[0], pair[1])
	}
}

// TestComparisons: R5.3: comparisons of numbers in rising order, Ints and Reals.
func TestComparisons(t *testing.T) {
	numbers := []api.Value{whole(-top), num(-top, 3), num(-7, 2), whole(-3), num(-1, 2), num(-1, top), whole(0), num(1, top), num(1, top-1),
		num(1, 2), num(2, 3), whole(1), num(top, top-1), whole(2), num(top-1, 2), whole(top - 1), whole(top)}
	sortsOf := func(v api.Value) []int {
		if v.Num.Den == 1 {
			return []int{api.SortInt, api.SortReal}
		}
		return []int{api.SortReal}
	}
	for i, l := range numbers {
		for k, r := range numbers {
			for _, sort := range sortsOf(l) {
				for _, other := range sortsOf(r) {
					sorts := []int{sort, other}
					of(t, "less", node(api.OpLess), asValue(i < k), sorts, l, r)
					of(t, "most", node(api.OpMost), asValue(i <= k), sorts, l, r)
					of(t, "same", node(api.OpSame), asValue(i == k), sorts, l, r)
				}
			}
		}
	}
}

// TestSame: R5.3: the same things and words.
func TestSame(t *testing.T) {
	for _, sort := range []int{api.SortThing, api.SortWord + 1, api.SortWord + 3, api.SortWord + 8} {
		for l := range 2 {
			for r := range 2 {
				of(t, "same", node(api.OpSame), asValue(l == r), []int{sort, sort}, whole(l), whole(r))
			}
		}
	}
	for _, pair := range [][2]int{{0, things}, {things, things}, {things - 1, things}, {255, 511}} {
		of(t, "same things", node(api.OpSame), asValue(pair[0] == pair[1]), []int{api.SortThing, api.SortThing}, whole(pair[0]), whole(pair[1]))
	}
}

// bits are the b lowest bits of a number, the lowest one first.
func bits(n, b int) []int {
	var l []int
	for range b {
		l = append(l, n&1)
		n >>= 1
	}
	return l
}

func fromBits(l []int) int {
	n := 0
	for i := len(l) - 1; i >= 0; i-- {
		n = 2*n + l[i]
	}
	return n
}

// bitwise is an operator on two words, bit by bit, where f tells the next bit and what is carried.
func bitwise(l, r, b int, f func(x, y, carry int) (int, int)) int {
	var out []int
	carry := 0
	y := bits(r, b)
	for i, x := range bits(l, b) {
		var bit int
		bit, carry = f(x, y[i], carry)
		out = append(out, bit)
	}
	return fromBits(out)
}

func plus(x, y, carry int) (int, int) { return (x + y + carry) % 2, (x + y + carry) / 2 }

func left(l, by, b int) int { return fromBits(append(make([]int, by), bits(l, b)...)[:b]) }

// product adds up what is moved to the left.
func product(l, r, b int) int {
	sum := 0
	for i, bit := range bits(r, b) {
		if bit == 1 {
			sum = bitwise(sum, left(l, i, b), b, plus)
		}
	}
	return sum
}

// wordsOf is what the nodes of allWords are.
func wordsOf(l, r, b int) []int {
	out := []int{
		bitwise(l, 0, b, func(x, y, c int) (int, int) { return 1 - x, 0 }),
		bitwise(l, r, b, func(x, y, c int) (int, int) { return min(x, y), 0 }),
		bitwise(l, r, b, func(x, y, c int) (int, int) { return max(x, y), 0 }),
		bitwise(l, r, b, func(x, y, c int) (int, int) { return (x + y) % 2, 0 }),
		bitwise(l, r, b, plus),
		product(l, r, b),
		asValue(l < r).Num.Num,
		asValue(l == r).Num.Num,
	}
	for by := range api.MaxBits + 1 {
		out = append(out, left(l, by, b))
	}
	return out
}

// allWords has all operators on words, of the nodes 0 and 1.
func allWords() []api.Node {
	nodes := []api.Node{node(api.OpWNot, 0), node(api.OpWAnd, 0, 1), node(api.OpWOr, 0, 1), node(api.OpWXor, 0, 1),
		node(api.OpWAdd, 0, 1), node(api.OpWTimes, 0, 1), node(api.OpWLess, 0, 1), node(api.OpSame, 0, 1)}
	for by := range api.MaxBits + 1 {
		nodes = append(nodes, api.Node{Op: api.OpWLeft, N: by, Kids: []int{0}})
	}
	return nodes
}

// TestWords: R5.3: all operators on all words of up to six bits, and on a part of the longer ones.
func TestWords(t *testing.T) {
	for b := 1; b <= api.MaxBits; b++ {
		sort := api.SortWord + b
		for l := range 1 << b {
			for r := range 1 << b {
				if b > 6 && (l*13+r*7)%11 != 0 && r != 1<<b-1 && l != 1<<b-1 {
					continue
				}
				a, w := names([]int{sort, sort}, whole(l), whole(r))
				a.Nodes = append(a.Nodes, allWords()...)
				got, not := mean.Value(a, w)
				if not != fine {
					t.Fatalf("words of %d bits: %v", b, not)
				}
				for i, want := range wordsOf(l, r, b) {
					if !equal(got[i+2], whole(want)) {
						t.Fatalf("%d bits: node %v of %d, %d is %v, want %d", b, a.Nodes[i+2], l, r, got[i+2], want)
					}
				}
			}
		}
		last(t, "a word", api.Ask{Nodes: []api.Node{number(api.OpWord, 0, b), number(api.OpWord, 1<<b-1, b)}}, api.World{}, whole(0), whole(1<<b-1))
	}
}

// TestOperatorsOfNodes: R5.3: children may be nodes of any kind.
func TestOperatorsOfNodes(t *testing.T) {
	a := api.Ask{Nodes: []api.Node{
		number(api.OpNum, 3, 1),
		number(api.OpTimes, -2, 3, 0),
		node(api.OpAdd, 0, 1, 1),
		node(api.OpLess, 2, 1),
		node(api.OpMost, 1, 2),
		node(api.OpPick, 3, 0, 2),
		node(api.OpIff, 4, 4),
		number(api.OpWord, 5, 3),
		node(api.OpWNot, 7),
		node(api.OpPick, 6, 8, 7),
		node(api.OpWLess, 9, 7),
		node(api.OpAnd, 10, 6, 4),
	}}
	a.Nodes[5].Kids = []int{3, 1, 2}
	last(t, "nodes of nodes", a, api.World{}, whole(3), whole(-2), whole(-1), whole(0), whole(1), whole(-1),
		whole(1), whole(5), whole(2), whole(2), whole(1), whole(1))
}

// TestHolds: R5.4: which nodes are asserted.
func TestHolds(t *testing.T) {
	nodes := []api.Node{node(api.OpTrue), node(api.OpFalse), node(api.OpNot, 1), node(api.OpAnd, 0, 1)}
	for _, c := range []struct {
		hold []int
		want bool
	}{
		{nil, true},
		{[]int{0}, true},
		{[]int{1}, false},
		{[]int{2}, true},
		{[]int{3}, false},
		{[]int{0, 2, 0}, true},
		{[]int{0, 2, 3}, false},
		{[]int{3, 0, 2}, false},
		{[]int{1, 1}, false},
		{slices.Repeat([]int{2}, api.MaxNodes), true},
		{append(slices.Repeat([]int{2}, api.MaxNodes-1), 1), false},
	} {
		a := api.Ask{Nodes: nodes, Hold: c.hold}
		run(t, "asserted nodes", a, api.World{}, fine)
		if got, not := mean.Holds(a, api.World{}); got != c.want || not != fine {
			t.Errorf("Holds where %v are asserted = %v %v", c.hold, got, not)
		}
	}
	a, w := names([]int{api.SortBool, api.SortBool}, whole(1), whole(0))
	a.Hold = []int{0}
	if got, not := mean.Holds(a, w); !got || not != fine {
		t.Errorf("Holds of a true name = %v %v", got, not)
	}
	a.Hold = []int{0, 1}
	if got, not := mean.Holds(a, w); got || not != fine {
		t.Errorf("Holds of a true and a false name = %v %v", got, not)
	}
}

// TestErrorsOfQueries: R5.2: the error of a query is returned, whatever the world is.
func TestErrorsOfQueries(t *testing.T) {
	p := decl("p", api.SortBool, 0)
	for _, a := range []api.Ask{
		{Decls: slices.Repeat([]api.Decl{p}, api.MaxDecls+1)},
		{Decls: []api.Decl{p, p}},
		{Decls: []api.Decl{{Name: "1", Sort: api.SortBool}}},
		{Decls: []api.Decl{p, decl("f", api.SortInt, api.MaxKids+1)}},
		{Decls: []api.Decl{p, decl("f", api.SortArray, 1)}},
		{Decls: []api.Decl{{Name: "p", Sort: api.SortWord + 9}}},
		{Nodes: slices.Repeat([]api.Node{node(api.OpTrue)}, api.MaxNodes+1)},
		{Nodes: []api.Node{node(99)}},
		{Nodes: []api.Node{node(api.OpTrue), node(api.OpNot)}},
		{Nodes: []api.Node{node(api.OpNot, 0)}},
		{Nodes: []api.Node{node(api.OpNot, -1)}},
		{Nodes: []api.Node{node(api.OpTrue), node(api.OpWNot, 0)}},
		{Nodes: []api.Node{number(api.OpNum, 2, 4)}},
		{Nodes: []api.Node{named("none")}},
		{Nodes: []api.Node{node(api.OpTrue)}, Hold: []int{0, 1}},
		{Nodes: []api.Node{node(api.OpTrue), number(api.OpNum, 1, 1)}, Hold: []int{0, 1}},
		{Hold: []int{-1}},
	} {
		want := ask.Check(a)
		if want == fine {
			t.Fatalf("%v is well formed", a)
		}
		for _, w := range []api.World{
			{},
			{Means: []api.Meaning{constant(whole(5))}},
			{Means: slices.Repeat([]api.Meaning{constant(whole(0))}, len(a.Decls))},
			{Means: slices.Repeat([]api.Meaning{{}}, len(a.Decls)+1)},
		} {
			run(t, "an invalid query", a, w, want)
		}
	}
}
