package simple_test

import (
	"fmt"
	"math/big"
	"math/rand"
	"slices"
	"testing"

	"umpirage/api"
	"umpirage/ask"
	"umpirage/mean"
)

// These tests compare package simple with a second implementation, which works on trees, and with package mean.

// tree is a node of the second implementation, of which there is one for each text of it.
type tree struct {
	api.Node
	kids []*tree
}

func (e *tree) is(op int) bool { return e.Op == op }

func (e *tree) isNumber() bool { return e.Op == api.OpNum }

func (e *tree) isConstant() bool {
	return slices.Contains([]int{api.OpTrue, api.OpFalse, api.OpNum, api.OpWord}, e.Op)
}

// forest has all trees in the order in which they were planted, and how often each rule applied.
type forest struct {
	trees []*tree
	known map[string]*tree
	rules map[string]int
}

func (f *forest) plant(n api.Node, kids ...*tree) *tree {
	key := fmt.Sprintf("%d %d %d %q", n.Op, n.N, n.D, n.Name)
	for _, k := range kids {
		key += fmt.Sprintf(" %p", k)
	}
	if f.known[key] == nil {
		f.known[key] = &tree{Node: n, kids: kids}
		f.trees = append(f.trees, f.known[key])
	}
	return f.known[key]
}

// rule plants nothing, but counts.
func (f *forest) rule(name string, e *tree) *tree {
	f.rules[name]++
	return e
}

func (f *forest) truth(b bool) *tree {
	return f.plant(node(map[bool]int{true: api.OpTrue, false: api.OpFalse}[b]))
}

func (f *forest) not(e *tree) *tree {
	switch {
	case e.is(api.OpTrue), e.is(api.OpFalse):
		return f.rule("not constant", f.truth(e.is(api.OpFalse)))
	case e.is(api.OpNot):
		return f.rule("not not", e.kids[0])
	}
	return f.plant(node(api.OpNot), e)
}

// junction is an OpAnd or OpOr; neutral is its constant that is left out.
func (f *forest) junction(op, neutral, other int, kids []*tree) *tree {
	var done []*tree
	for todo := kids; len(todo) > 0; {
		first := todo[0]
		todo = todo[1:]
		if first.is(op) && len(done)+len(todo)+len(first.kids) <= 8 {
			f.rules["taken in"]++
			todo = append(slices.Clone(first.kids), todo...)
		} else {
			if first.is(op) {
				f.rules["no room"]++
			}
			done = append(done, first)
		}
	}
	var left []*tree
	seen := map[*tree]bool{}
	for _, e := range done {
		if !seen[e] && !e.is(neutral) {
			left = append(left, e)
		}
		if seen[e] {
			f.rules["repeated"]++
		}
		seen[e] = true
	}
	for _, e := range left {
		if e.is(other) {
			return f.rule("decided", f.plant(node(other)))
		}
		if e.is(api.OpNot) && seen[e.kids[0]] {
			return f.rule("contrary", f.plant(node(other)))
		}
	}
	if len(left) == 0 {
		return f.rule("none left", f.plant(node(neutral)))
	}
	if len(left) == 1 {
		return f.rule("one left", left[0])
	}
	return f.plant(node(op), left...)
}

func (f *forest) iff(l, r *tree) *tree {
	if l == r {
		return f.rule("iff equal", f.truth(true))
	}
	for _, side := range [][2]*tree{{l, r}, {r, l}} {
		if side[0].is(api.OpTrue) {
			return f.rule("iff true", side[1])
		}
	}
	for _, side := range [][2]*tree{{l, r}, {r, l}} {
		if side[0].is(api.OpFalse) {
			return f.rule("iff false", f.not(side[1]))
		}
	}
	return f.plant(node(api.OpIff), l, r)
}

func rational(e *tree) *big.Rat { return big.NewRat(int64(e.N), int64(e.D)) }

// atMost tells whether the numerator and the denominator of a number are at most limit.
func atMost(v *big.Rat, limit int64) bool {
	return v.Num().CmpAbs(big.NewInt(limit)) <= 0 && v.Denom().Cmp(big.NewInt(limit)) <= 0
}

// arithmetic is a sum or a product of a sort.
func (f *forest) arithmetic(n api.Node, sort int, kids []*tree) *tree {
	value, good := new(big.Rat), !slices.ContainsFunc(kids, func(k *tree) bool { return !k.isNumber() })
	for _, k := range kids {
		if good && n.Op == api.OpAdd {
			value.Add(value, rational(k))
			if good = atMost(value, 1<<30); !good {
				f.rules["partial sum"]++
			}
		} else if good {
			value.Mul(rational(k), rational(&tree{Node: n}))
		}
	}
	if good && !atMost(value, 1000000) {
		good = f.rule("too large", nil) != nil
	}
	if good && value.IsInt() != (sort == api.SortInt) {
		good = f.rule("another sort", nil) != nil
	}
	if good {
		return f.rule(map[int]string{api.OpAdd: "sum", api.OpTimes: "product"}[n.Op], f.plant(number(api.OpNum, int(value.Num().Int64()), int(value.Denom().Int64()))))
	}
	if n.Op == api.OpTimes {
		if n.N == 1 && n.D == 1 {
			return f.rule("times 1", kids[0])
		}
		return f.plant(n, kids...)
	}
	var left []*tree
	for _, k := range kids {
		if !k.isNumber() || k.N != 0 {
			left = append(left, k)
		} else {
			f.rules["zero"]++
		}
	}
	if len(left) == 1 {
		return f.rule("one term", left[0])
	}
	return f.plant(node(api.OpAdd), left...)
}

// valued is an operator on constants, by package mean.
func (f *forest) valued(n api.Node, sort int, kids []*tree) *tree {
	var a api.Ask
	n.Kids = nil
	for i, k := range kids {
		a.Nodes = append(a.Nodes, k.Node)
		n.Kids = append(n.Kids, i)
	}
	a.Nodes = append(a.Nodes, n)
	values, not := mean.Value(a, api.World{})
	if not != fine {
		panic(not)
	}
	v := values[len(kids)].Num.Num
	if sort == api.SortBool {
		return f.truth(v == 1)
	}
	return f.plant(number(api.OpWord, v, sort-api.SortWord))
}

// build is the tree for a node of a sort.
func (f *forest) build(n api.Node, sort int, kids []*tree) *tree {
	n.Kids = nil
	constants := len(kids) > 0 && !slices.ContainsFunc(kids, func(k *tree) bool { return !k.isConstant() })
	equal := len(kids) == 2 && kids[0] == kids[1]
	switch op := n.Op; {
	case op == api.OpNot:
		return f.not(kids[0])
	case op == api.OpAnd:
		return f.junction(op, api.OpTrue, api.OpFalse, kids)
	case op == api.OpOr:
		return f.junction(op, api.OpFalse, api.OpTrue, kids)
	case op == api.OpIff:
		return f.iff(kids[0], kids[1])
	case op == api.OpPick && kids[0].isConstant():
		return f.rule("picked", map[bool]*tree{true: kids[1], false: kids[2]}[kids[0].is(api.OpTrue)])
	case op == api.OpPick && kids[1] == kids[2]:
		return f.rule("pick equal", kids[1])
	case op == api.OpAdd, op == api.OpTimes:
		return f.arithmetic(n, sort, kids)
	case op == api.OpSame && equal, op == api.OpMost && equal:
		return f.rule(fmt.Sprint("equal ", op), f.truth(true))
	case op == api.OpLess && equal:
		return f.rule("equal 13", f.truth(false))
	case op == api.OpWLeft && n.N == 0:
		return f.rule("left by 0", kids[0])
	case constants && slices.Contains([]int{8, 13, 14, 16, 17, 18, 19, 20, 21, 22, 23}, op):
		return f.rule(fmt.Sprint("constants ", op), f.valued(n, sort, kids))
	case op == api.OpGet && kids[0].is(api.OpPut):
		if kids[0].kids[1] == kids[1] {
			return f.rule("get of put", kids[0].kids[2])
		}
		f.rules["get of another put"]++
	}
	return f.plant(n, kids...)
}

// exact is what Do is to return for a query without errors; rules counts the rules that were applied.
func exact(a api.Ask, rules map[string]int) api.Ask {
	sorts, _ := ask.Sorts(a)
	used, _ := ask.Used(a)
	f := &forest{known: map[string]*tree{}, rules: rules}
	instead := map[int]*tree{}
	for i, n := range a.Nodes {
		if used[i] {
			var kids []*tree
			for _, k := range n.Kids {
				kids = append(kids, instead[k])
			}
			instead[i] = f.build(n, sorts[i], kids)
		}
	}
	var hold []*tree
	for _, h := range a.Hold {
		e := instead[h]
		if e.is(api.OpFalse) {
			hold = []*tree{e}
			break
		}
		if !e.is(api.OpTrue) && !slices.Contains(hold, e) {
			hold = append(hold, e)
		}
	}
	return f.written(a.Decls, hold)
}

// written is the query of the trees that are asserted.
func (f *forest) written(decls []api.Decl, hold []*tree) api.Ask {
	needed := map[*tree]bool{}
	var need func(e *tree)
	need = func(e *tree) {
		needed[e] = true
		for _, k := range e.kids {
			need(k)
		}
	}
	for _, e := range hold {
		need(e)
	}
	out, numbers := api.Ask{Decls: decls}, map[*tree]int{}
	for _, e := range f.trees {
		if needed[e] {
			n := e.Node
			for _, k := range e.kids {
				n.Kids = append(n.Kids, numbers[k])
			}
			numbers[e] = len(out.Nodes)
			out.Nodes = append(out.Nodes, n)
		}
	}
	for _, e := range hold {
		out.Hold = append(out.Hold, numbers[e])
	}
	return out
}

// randomDecls are names of all sorts; bits is the width of the bit vectors.
func randomDecls(bits int) []api.Decl {
	thing := api.SortThing
	return []api.Decl{
		{Name: "p", Sort: 1}, {Name: "q", Sort: 1}, {Name: "i", Sort: 2}, {Name: "j", Sort: 2}, {Name: "x", Sort: 3},
		{Name: "t", Sort: 4}, {Name: "u", Sort: 4}, {Name: "a", Sort: 5}, {Name: "v", Sort: api.SortWord + bits},
		{Name: "f", Args: []int{thing}, Sort: thing}, {Name: "g", Args: []int{thing, thing}, Sort: 1},
		{Name: "h", Args: []int{thing}, Sort: 2}, {Name: "k", Args: []int{thing}, Sort: 3}, {Name: "w", Sort: api.SortWord + bits},
	}
}

// garden makes queries at random.
type garden struct {
	*rand.Rand
	a     api.Ask
	sorts []int
	bits  int
}

func (g *garden) oneOf(l ...int) int { return l[g.Intn(len(l))] }

// some is a node of one of such sorts, most often a late one, or -1.
func (g *garden) some(sorts ...int) int {
	var l []int
	for i, s := range g.sorts {
		if slices.Contains(sorts, s) {
			l = append(l, i)
		}
	}
	if len(l) == 0 {
		return -1
	}
	if g.Intn(3) == 0 {
		return l[g.Intn(len(l))]
	}
	return l[len(l)-1-g.Intn(min(len(l), 4))]
}

// add adds a node if it is well formed.
func (g *garden) add(n api.Node) {
	longer := api.Ask{Decls: g.a.Decls, Nodes: append(slices.Clone(g.a.Nodes), n)}
	if sorts, not := ask.Sorts(longer); not == fine {
		g.a, g.sorts = longer, sorts
	}
}

func (g *garden) number() int {
	return []int{g.Intn(7) - 3, g.Intn(7) - 3, g.Intn(2), g.Intn(2001) - 1000, g.Intn(2000001) - 1000000}[g.Intn(5)]
}

func (g *garden) denominator() int {
	return []int{1, 1, 1, 1 + g.Intn(4), 1 + g.Intn(2000), 1 + g.Intn(1000000), 999999 - g.Intn(100), 32768 + g.Intn(2)}[g.Intn(8)]
}

// fraction is a node with a number.
func (g *garden) fraction(op int, kids ...int) api.Node {
	f := big.NewRat(int64(g.number()), int64(g.denominator()))
	return number(op, int(f.Num().Int64()), int(f.Denom().Int64()), kids...)
}

// kidsOf are nodes of one of such sorts, often some of them twice.
func (g *garden) kidsOf(count int, sorts ...int) []int {
	var l []int
	for range count {
		if len(l) > 0 && g.Intn(5) == 0 {
			l = append(l, l[g.Intn(len(l))])
		} else {
			l = append(l, g.some(sorts...))
		}
	}
	return l
}

// constants are nodes with numbers.
func (g *garden) constants(count int) []int {
	var all, l []int
	for i, n := range g.a.Nodes {
		if n.Op == api.OpNum {
			all = append(all, i)
		}
	}
	for range min(count, len(all)) {
		l = append(l, g.oneOf(all...))
	}
	return l
}

// node is a node at random, which may not be well formed; names tells whether it may be one.
func (g *garden) node(names bool) api.Node {
	word := api.SortWord + g.bits
	op := 1 + g.Intn(25)
	if g.Intn(5) == 0 {
		op = g.oneOf(api.OpNot, api.OpAnd, api.OpOr, api.OpNum, api.OpAdd, api.OpTimes, api.OpGet, api.OpGet)
	}
	switch op {
	case api.OpTrue, api.OpFalse:
		if names && g.Intn(2) == 0 {
			return node(api.OpIff, g.kidsOf(2, 1)...)
		}
		return node(op)
	case api.OpNot:
		return node(op, g.some(1))
	case api.OpAnd, api.OpOr:
		return node(op, g.kidsOf(g.oneOf(0, 1, 2, 2, 2, 3, 3, 4, 5, 6, 7, 8), 1)...)
	case api.OpIff:
		return node(op, g.kidsOf(2, 1)...)
	case api.OpPick:
		return node(op, append([]int{g.some(1)}, g.kidsOf(2, g.oneOf(1, 2, 3, 4, word))...)...)
	case api.OpSame:
		return node(op, g.kidsOf(2, [][]int{{2, 3}, {4}, {word}}[g.Intn(3)]...)...)
	case api.OpName:
		d := g.a.Decls[g.Intn(len(g.a.Decls))]
		if !names {
			return node(api.OpTrue)
		}
		return named(d.Name, g.kidsOf(len(d.Args), 4)...)
	case api.OpNum:
		return g.fraction(op)
	case api.OpAdd:
		if g.Intn(2) == 0 {
			return node(op, g.constants(1+g.Intn(8))...)
		}
		return node(op, g.kidsOf(g.Intn(6), []int{2, 3}[g.Intn(2):]...)...)
	case api.OpTimes:
		return g.fraction(op, g.some(2, 3))
	case api.OpLess, api.OpMost:
		return node(op, g.kidsOf(2, 2, 3)...)
	case api.OpWord:
		return number(op, g.Intn(1<<g.bits), g.bits)
	case api.OpWNot:
		return node(op, g.some(word))
	case api.OpWLeft:
		return number(op, g.oneOf(0, 0, 1, 2, 8), 0, g.some(word))
	case api.OpGet:
		return node(op, g.some(5), g.some(4))
	case api.OpPut:
		return node(op, g.some(5), g.some(4), g.some(4))
	}
	return node(op, g.kidsOf(2, word)...)
}

// query is one without errors, with or without names; most often no assertion of it becomes OpFalse.
func (g *garden) query(size int, names bool) api.Ask {
	g.bits = 1 + g.Intn(api.MaxBits)
	g.a, g.sorts = api.Ask{Decls: randomDecls(g.bits)}, nil
	for _, d := range g.a.Decls {
		if names && len(d.Args) == 0 && g.Intn(6) > 0 {
			g.add(named(d.Name))
		}
	}
	for range size {
		g.add(g.node(names))
	}
	for range 1 + g.Intn(8) {
		h := g.some(1)
		if h < 0 {
			break
		}
		alone := exact(api.Ask{Decls: g.a.Decls, Nodes: g.a.Nodes, Hold: []int{h}}, map[string]int{})
		if len(alone.Nodes) != 1 || alone.Nodes[0].Op != api.OpFalse || g.Intn(20) == 0 || !names {
			g.a.Hold = append(g.a.Hold, h)
		}
	}
	return g.a
}

// world is an interpretation of the declarations, with few things and numbers.
func (g *garden) world() api.World {
	value := func(sort int) api.Value {
		v := api.Value{Num: api.Frac{Num: g.Intn(3), Den: 1}}
		switch sort {
		case api.SortBool:
			v.Num.Num = g.Intn(2)
		case api.SortInt:
			v.Num.Num = g.Intn(5) - 2
		case api.SortReal:
			v.Num = api.Frac{Num: 2*g.Intn(4) - 3, Den: g.oneOf(1, 2, 4)}
		case api.SortArray:
			v = api.Value{Rest: 1, Cells: []api.Cell{{At: 0, It: g.oneOf(0, 2)}, {At: 2, It: g.oneOf(0, 2)}}[g.Intn(3):]}
		}
		if sort > api.SortWord {
			v.Num.Num = g.Intn(1 << g.bits)
		}
		return v
	}
	var w api.World
	for _, d := range g.a.Decls {
		m := api.Meaning{Rest: value(d.Sort)}
		if len(d.Args) == 1 {
			m.Rows = []api.Entry{{Args: []int{0}, To: value(d.Sort)}, {Args: []int{1}, To: value(d.Sort)}}
		}
		if len(d.Args) == 2 {
			m.Rows = []api.Entry{{Args: []int{0, 1}, To: value(d.Sort)}, {Args: []int{1, 1}, To: value(d.Sort)}}
		}
		w.Means = append(w.Means, m)
	}
	return w
}

// rules are those of the second implementation.
var rules = []string{"not constant", "not not", "taken in", "no room", "repeated", "decided", "contrary", "none left", "one left", "iff equal", "iff true", "iff false",
	"picked", "pick equal", "partial sum", "too large", "another sort", "sum", "product", "times 1", "zero", "one term", "equal 8", "equal 13", "equal 14", "left by 0",
	"constants 8", "constants 13", "constants 14", "constants 16", "constants 17", "constants 18", "constants 19", "constants 20", "constants 21", "constants 22",
	"constants 23", "get of put", "get of another put"}

// TestRandom: R8.1 to R8.3: random queries become what the second implementation makes of them.
func TestRandom(t *testing.T) {
	g := &garden{Rand: rand.New(rand.NewSource(8))}
	seen := map[string]int{}
	for range 10000 {
		a := g.query(10+g.Intn(50), g.Intn(5) > 0)
		want := exact(a, seen)
		if got := simplified(t, a); !same(got, want) {
			t.Fatalf("%v: got %v, want %v", a, got, want)
		}
	}
	for _, name := range rules {
		if seen[name] < 50 {
			t.Errorf("the rule %s applied only %d times", name, seen[name])
		}
	}
}

// TestSameMeaning: R8.3: where package mean reports no error for a query, the result holds if and only if the query does.
func TestSameMeaning(t *testing.T) {
	g := &garden{Rand: rand.New(rand.NewSource(83))}
	seen := map[bool]int{}
	for range 1500 {
		a := g.query(10+g.Intn(40), true)
		for h := range a.Nodes {
			if g.sorts[h] != api.SortBool || g.Intn(3) > 0 {
				continue
			}
			a.Hold = []int{h}
			if g.Intn(4) == 0 {
				a.Hold = append(a.Hold, g.some(1))
			}
			got := simplified(t, a)
			for range 4 {
				w := g.world()
				holds, not := mean.Holds(a, w)
				if not != fine {
					continue
				}
				if still, not := mean.Holds(got, w); still != holds || not != fine {
					t.Fatalf("%v in %v: it is %v, but %v is %v %v", a, w, holds, got, still, not)
				}
				if len(got.Nodes) > 1 {
					seen[holds]++
				}
			}
		}
	}
	if seen[true] < 2000 || seen[false] < 2000 {
		t.Errorf("too few that hold or do not: %v", seen)
	}
}

// TestNoNames: R8.3: a query without names has no assertion left, or only OpFalse, if its sums and products are constants.
func TestNoNames(t *testing.T) {
	g := &garden{Rand: rand.New(rand.NewSource(80))}
	seen := map[string]int{}
	for range 6000 {
		a := g.query(10+g.Intn(30), false)
		if len(a.Hold) == 0 {
			continue
		}
		a.Decls = nil
		got := simplified(t, a)
		values, not := mean.Value(a, api.World{})
		if not != fine || slices.ContainsFunc(numbers(a, values), isNoConstant) {
			seen["not"]++
			continue
		}
		holds, _ := mean.Holds(a, api.World{})
		want := api.Ask{Nodes: []api.Node{node(api.OpFalse)}, Hold: []int{0}}
		if holds {
			want = api.Ask{}
		}
		if !same(got, want) {
			t.Fatalf("%v: got %v, want %v", a, got, want)
		}
		seen[fmt.Sprint(holds)]++
	}
	if seen["not"] < 100 || seen["true"] < 100 || seen["false"] < 100 {
		t.Errorf("too few of some: %v", seen)
	}
}

// amount is the value of a numeric node with its sort.
type amount struct {
	api.Frac
	sort int
}

// numbers are the values of the numeric nodes of a query.
func numbers(a api.Ask, values []api.Value) []amount {
	sorts, _ := ask.Sorts(a)
	var l []amount
	for i, v := range values {
		if sorts[i] == api.SortInt || sorts[i] == api.SortReal {
			l = append(l, amount{v.Num, sorts[i]})
		}
	}
	return l
}

// isNoConstant tells whether no OpNum has that value and sort.
func isNoConstant(v amount) bool {
	return max(v.Num, -v.Num, v.Den) > api.MaxWhole || (v.Den == 1) != (v.sort == api.SortInt)
}

// R8.2, R8.3: without names, but with a sum or a product that is not a constant, the assertion stays.
func TestNoNamesStay(t *testing.T) {
	half, two := number(api.OpNum, 1, 2), number(api.OpNum, 2, 1)
	for _, middle := range []api.Node{node(api.OpAdd, 0, 0), number(api.OpTimes, 2, 1, 0), number(api.OpTimes, 1, 2, 1)} {
		a := api.Ask{Nodes: []api.Node{half, two, middle, node(api.OpLess, 2, 1), node(api.OpMost, 0, 2)}, Hold: []int{3, 4}}
		wantNodes(t, a, a.Nodes, a.Hold...)
	}
	large := number(api.OpNum, api.MaxWhole, 1)
	b := api.Ask{Nodes: []api.Node{large, node(api.OpAdd, 0, 0), node(api.OpLess, 0, 1)}, Hold: []int{2}}
	wantNodes(t, b, b.Nodes, b.Hold...)
}
