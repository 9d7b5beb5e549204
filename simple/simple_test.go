package simple_test

import (
	"reflect"
	"slices"
	"strings"
	"testing"

	"umpirage/api"
	"umpirage/ask"
	"umpirage/read"
	"umpirage/simple"
)

var fine = api.Fault{}

func fault(code, at int) api.Fault { return api.Fault{Code: code, At: at} }

func node(op int, kids ...int) api.Node { return api.Node{Op: op, Kids: kids} }

func number(op, n, d int, kids ...int) api.Node { return api.Node{Op: op, N: n, D: d, Kids: kids} }

func named(name string, kids ...int) api.Node {
	return api.Node{Op: api.OpName, Name: name, Kids: kids}
}

const declarations = `(decl p () bool)
(decl q () bool)
(decl r () bool)
(decl s () bool)
(decl i () int)
(decl j () int)
(decl x () real)
(decl y () real)
(decl t () thing)
(decl u () thing)
(decl a () array)
(decl b () array)
(decl v () word3)
(decl w () word3)
(decl f (thing thing) thing)
(decl g (thing) bool)
`

func copied(a api.Ask) api.Ask {
	a.Decls, a.Nodes, a.Hold = slices.Clone(a.Decls), slices.Clone(a.Nodes), slices.Clone(a.Hold)
	for i := range a.Decls {
		a.Decls[i].Args = slices.Clone(a.Decls[i].Args)
	}
	for i := range a.Nodes {
		a.Nodes[i].Kids = slices.Clone(a.Nodes[i].Kids)
	}
	return a
}

// same tells whether two queries are the same; lists without elements are.
func same(a, b api.Ask) bool {
	return slices.Equal(a.Hold, b.Hold) &&
		slices.EqualFunc(a.Decls, b.Decls, func(c, d api.Decl) bool {
			return c.Name == d.Name && c.Sort == d.Sort && slices.Equal(c.Args, d.Args)
		}) &&
		slices.EqualFunc(a.Nodes, b.Nodes, func(m, n api.Node) bool {
			return m.Op == n.Op && m.N == n.N && m.D == n.D && m.Name == n.Name && slices.Equal(m.Kids, n.Kids)
		})
}

// simplified is what a query without errors becomes, after a look at what is promised of all results.
func simplified(t *testing.T, a api.Ask) api.Ask {
	t.Helper()
	before := copied(a)
	got, not := simple.Do(a)
	if again, _ := simple.Do(a); !same(got, again) {
		t.Errorf("%v: %v at first, but %v again", a, got, again)
	}
	if !reflect.DeepEqual(a, before) {
		t.Errorf("Do changed %v to %v", before, a)
	}
	if not != fine {
		t.Fatalf("%v: %v", a, not)
	}
	wantWell(t, a, got)
	return got
}

// wantWell wants a result that has no more nodes than the query, none of them twice, and all of them used.
func wantWell(t *testing.T, a, got api.Ask) {
	t.Helper()
	if not := ask.Check(got); not != fine {
		t.Errorf("%v: %v is not well formed: %v", a, got, not)
	}
	if len(got.Nodes) > len(a.Nodes) {
		t.Errorf("%v: %v has more nodes", a, got)
	}
	if used, _ := ask.Used(got); slices.Contains(used, false) {
		t.Errorf("%v: not all nodes of %v are used", a, got)
	}
	for i, n := range got.Nodes {
		for _, m := range got.Nodes[:i] {
			if same(api.Ask{Nodes: []api.Node{m}}, api.Ask{Nodes: []api.Node{n}}) {
				t.Errorf("%v: %v has a node twice", a, got)
			}
		}
	}
	for i, h := range got.Hold {
		op := got.Nodes[h].Op
		if op == api.OpTrue || op == api.OpFalse && len(got.Hold) > 1 || slices.Contains(got.Hold[:i], h) {
			t.Errorf("%v: %v asserts what it should not", a, got)
		}
	}
}

// wantNodes wants such nodes and assertions of a query.
func wantNodes(t *testing.T, a api.Ask, nodes []api.Node, hold ...int) {
	t.Helper()
	want := api.Ask{Decls: a.Decls, Nodes: nodes, Hold: hold}
	if got := simplified(t, a); !same(got, want) {
		t.Errorf("%v: got %v, want %v", a, got, want)
	}
}

// whole is the text of what the query with a text becomes.
func whole(t *testing.T, text string) string {
	t.Helper()
	a, not := read.Ask(text)
	if not != fine {
		t.Fatalf("%s: %v", text, not)
	}
	got, not := read.Text(simplified(t, a))
	if not != fine {
		t.Fatalf("%s: the result has no text: %v", text, not)
	}
	return got
}

// rewritten is the text of what assertions become, without their declarations.
func rewritten(t *testing.T, assertions string) string {
	t.Helper()
	rest, good := strings.CutPrefix(whole(t, declarations+assertions), declarations)
	if !good {
		t.Errorf("%s: the declarations changed", assertions)
	}
	return rest
}

// rule is an expression and what it becomes.
type rule struct{ from, to string }

// wantRules wants each expression to become what the rule tells; around has "E" where it stands, so that the
// expression need not be a Bool, and does not change itself.
func wantRules(t *testing.T, around string, rules []rule) {
	t.Helper()
	within := func(e string) string { return "(hold " + strings.Replace(around, "E", e, 1) + ")\n" }
	for _, r := range rules {
		if got, want := rewritten(t, within(r.from)), within(r.to); got != want {
			t.Errorf("%s: got %s, want %s", r.from, got, want)
		}
	}
}

// aroundBool asserts a Bool among others, so that a constant is seen too.
const aroundBool = "(iff (g t) (same t (pick E t u)))"

// wantTruths wants an expression to become another one, which is a constant or another Bool.
func wantTruths(t *testing.T, rules []rule) {
	t.Helper()
	for _, r := range rules {
		want := "(hold " + r.to + ")\n"
		if r.to == "true" {
			want = ""
		}
		if got := rewritten(t, "(hold "+r.from+")"); got != want {
			t.Errorf("%s: got %s, want %s", r.from, got, want)
		}
	}
	for _, r := range rules {
		if r.to != "true" && r.to != "false" {
			wantRules(t, aroundBool, []rule{r})
		}
	}
}

// R8.2: nodes without a rule stay; no more is done than the rules tell.
func TestNoRule(t *testing.T) {
	for _, e := range []string{
		"p", "(not p)", "(and p q)", "(and q p)", "(or p q)", "(iff p q)", "(iff q p)", "(iff p (not p))", "(pick p q r)",
		"(pick p q (not q))", "(pick p p q)", "(pick p q p)", "(pick p true false)", "(pick p true q)", "(pick p q false)",
		"(same i j)", "(same i 0)", "(same i x)", "(same t u)", "(same v w)", "(same v b000)", "(same (f t u) (f u t))",
		"(g t)", "(g (f t t))", "(less i j)", "(less i 0)", "(less 0 i)", "(most x 1/2)", "(most 1/2 x)", "(most i j)",
		"(wless v w)", "(wless v v)", "(wless v b000)", "(wless b111 v)", "(not (less i j))", "(not (most i j))",
		"(not (and p q))", "(not (or p q))", "(and (or p q) (or q p))", "(or (and p q) (and q p))", "(or p (and p q))",
		"(and p (or p q))", "(and (not p) (not q))", "(or (not p) (not q))", "(and (iff p q) (iff q p))",
		"(same (add i j) (add j i))", "(same (add i i) 0)", "(same (add i 1 1) 0)", "(same (add i (add j 1)) 0)",
		"(same (add i 1 -1) 0)", "(same (times 2 i) (add i i))", "(same (times 2 (times 3 i)) 0)", "(same (times 0 i) 0)",
		"(same (times -1 i) 0)", "(same (wand v v) v)", "(same (wor v b000) v)", "(same (wadd v b000) v)",
		"(same (wxor v v) b000)", "(same (wnot (wnot v)) v)", "(same (wtimes v b001) v)", "(same (wleft 1 v) v)",
		"(same (wleft 3 v) b000)", "(same (wleft 8 v) b000)", "(same (wand b000 v) b000)", "(same (wor v b111) b111)",
		"(same (get a t) u)", "(same (get (put a t u) u) t)", "(same (get (put a (f t u) u) (f u t)) t)",
		"(same (get (put (put a t u) u t) t) u)", "(same (get (put (put a t u) t t) u) u)",
	} {
		if got, want := rewritten(t, "(hold "+e+")"), "(hold "+e+")\n"; got != want {
			t.Errorf("%s: got %s", e, got)
		}
	}
}

// R8.2
func TestNot(t *testing.T) {
	wantTruths(t, []rule{
		{"true", "true"},
		{"false", "false"},
		{"(not true)", "false"},
		{"(not false)", "true"},
		{"(not (not p))", "p"},
		{"(not (not (not p)))", "(not p)"},
		{"(not (not (not (not p))))", "p"},
		{"(not (not true))", "true"},
		{"(not (not false))", "false"},
		{"(not (not (and p q)))", "(and p q)"},
		{"(not (and p p))", "(not p)"},
		{"(not (and (not p)))", "p"},
		{"(not (or))", "true"},
		{"(not (and))", "false"},
	})
}

// R8.2: OpAnd, and OpOr, which is written here with what stands for it.
func TestAndOr(t *testing.T) {
	rules := []rule{
		{"(and)", "true"},
		{"(and p)", "p"},
		{"(and true)", "true"},
		{"(and false)", "false"},
		{"(and true true)", "true"},
		{"(and true p)", "p"},
		{"(and p true)", "p"},
		{"(and p true q)", "(and p q)"},
		{"(and true q true p true)", "(and q p)"},
		{"(and p false)", "false"},
		{"(and false p q)", "false"},
		{"(and true false)", "false"},
		{"(and p p)", "p"},
		{"(and p q p)", "(and p q)"},
		{"(and q p q p r q)", "(and q p r)"},
		{"(and p true p)", "p"},
		{"(and p (not p))", "false"},
		{"(and (not p) p)", "false"},
		{"(and q (not p) r p)", "false"},
		{"(and p (not q))", "(and p (not q))"},
		{"(and (not p) (not (not p)))", "false"},
		{"(and (and p q) (not (and p q)))", "(and p q (not (and p q)))"},
		{"(and (or p q) (not (or p q)))", "false"},
		{"(and (not (or p q)) r (or p q))", "false"},
		{"(and (or p q) (not (or q p)))", "(and (or p q) (not (or q p)))"},
		{"(and p (and q r))", "(and p q r)"},
		{"(and (and p q) r)", "(and p q r)"},
		{"(and (and p q) (and r s))", "(and p q r s)"},
		{"(and r (and p q) s)", "(and r p q s)"},
		{"(and p (and q (and r s)))", "(and p q r s)"},
		{"(and (and (and p q) r) s)", "(and p q r s)"},
		{"(and (and p q) (and p q))", "(and p q)"},
		{"(and (and p q) (and q p))", "(and p q)"},
		{"(and (and p q) (not p))", "false"},
		{"(and p (and q (not p)))", "false"},
		{"(and p (and false q))", "false"},
		{"(and p (and true true))", "p"},
		{"(and p (or q r))", "(and p (or q r))"},
		{"(and p (not (and q r)))", "(and p (not (and q r)))"},
		{"(and (or p) (or q p))", "(and p (or q p))"},
		{"(and (less 0 1) p (less 1 0))", "false"},
	}
	wantTruths(t, rules)
	dual := strings.NewReplacer("and", "or", "or", "and", "true", "false", "false", "true")
	for i, r := range rules {
		rules[i] = rule{dual.Replace(r.from), dual.Replace(r.to)}
	}
	rules[len(rules)-1] = rule{"(or (less 1 0) p (less 0 1))", "true"}
	wantTruths(t, rules)
}

// R8.2
func TestIff(t *testing.T) {
	wantTruths(t, []rule{
		{"(iff p p)", "true"},
		{"(iff (not p) (not p))", "true"},
		{"(iff (and p q) (and p q q))", "true"},
		{"(iff true p)", "p"},
		{"(iff p true)", "p"},
		{"(iff false p)", "(not p)"},
		{"(iff p false)", "(not p)"},
		{"(iff false (not p))", "p"},
		{"(iff (not p) false)", "p"},
		{"(iff true (not p))", "(not p)"},
		{"(iff true true)", "true"},
		{"(iff false false)", "true"},
		{"(iff true false)", "false"},
		{"(iff false true)", "false"},
		{"(iff (iff p q) (iff p q))", "true"},
		{"(iff (iff p q) (iff q p))", "(iff (iff p q) (iff q p))"},
		{"(iff p (not (not p)))", "true"},
	})
}

// R8.2
func TestPick(t *testing.T) {
	wantTruths(t, []rule{
		{"(pick true p q)", "p"},
		{"(pick false p q)", "q"},
		{"(pick true true false)", "true"},
		{"(pick false true false)", "false"},
		{"(pick r p p)", "p"},
		{"(pick r (not p) (not p))", "(not p)"},
		{"(pick r true true)", "true"},
		{"(pick (not r) p q)", "(pick (not r) p q)"},
		{"(pick (iff p p) q r)", "q"},
	})
	wantRules(t, "(most E j)", []rule{{"(pick true i 1)", "i"}, {"(pick false i 1)", "1"}, {"(pick p i i)", "i"}, {"(pick p i j)", "(pick p i j)"}, {"(pick p 1 2)", "(pick p 1 2)"}})
	wantRules(t, "(same E u)", []rule{{"(pick true t (f u u))", "t"}, {"(pick false (f u u) t)", "t"}, {"(pick p (f t t) (f t t))", "(f t t)"}})
	wantRules(t, "(wless E w)", []rule{{"(pick true v b101)", "v"}, {"(pick false v b101)", "b101"}, {"(pick p b101 b101)", "b101"}, {"(pick p b101 b100)", "(pick p b101 b100)"}})
}

// R8.2
func TestSame(t *testing.T) {
	wantTruths(t, []rule{
		{"(same i i)", "true"},
		{"(same x x)", "true"},
		{"(same t t)", "true"},
		{"(same v v)", "true"},
		{"(same (f t u) (f t u))", "true"},
		{"(same (f t u) (f t t))", "(same (f t u) (f t t))"},
		{"(same 1 1)", "true"},
		{"(same 1 2)", "false"},
		{"(same 1 -1)", "false"},
		{"(same 0 0)", "true"},
		{"(same 1/2 1/2)", "true"},
		{"(same 1/2 1/3)", "false"},
		{"(same 1/2 1)", "false"},
		{"(same 1 1/2)", "false"},
		{"(same b101 b101)", "true"},
		{"(same b101 b100)", "false"},
		{"(same b1 b1)", "true"},
		{"(same b1 b0)", "false"},
		{"(same (add i 0) i)", "true"},
		{"(same (add 1 1) 2)", "true"},
		{"(same (times 1 x) x)", "true"},
		{"(same (add 1/2 1/2) 1)", "(same (add 1/2 1/2) 1)"},
		{"(same (add 1/2 1/2) (add 1/2 1/2))", "true"},
		{"(same (get (put a t u) t) u)", "true"},
	})
}

// R8.2
func TestCompare(t *testing.T) {
	wantTruths(t, []rule{
		{"(less 1 2)", "true"},
		{"(less 2 1)", "false"},
		{"(less 1 1)", "false"},
		{"(less 1/2 1/2)", "false"},
		{"(less -1 1)", "true"},
		{"(less 1 -1)", "false"},
		{"(less 1/3 1/2)", "true"},
		{"(less 1/2 1/3)", "false"},
		{"(less -1/2 -1/3)", "true"},
		{"(less 999999/1000000 1)", "true"},
		{"(less 1 999999/1000000)", "false"},
		{"(less 999998/999999 999999/1000000)", "true"},
		{"(less 999999/1000000 999998/999999)", "false"},
		{"(less i i)", "false"},
		{"(less x x)", "false"},
		{"(less (add i 0) i)", "false"},
		{"(most 1 2)", "true"},
		{"(most 2 1)", "false"},
		{"(most 1 1)", "true"},
		{"(most 1/2 1/2)", "true"},
		{"(most 1/3 1/2)", "true"},
		{"(most 1/2 1/3)", "false"},
		{"(most -1000000 1000000)", "true"},
		{"(most 1000000 -1000000)", "false"},
		{"(most i i)", "true"},
		{"(most x x)", "true"},
		{"(most (times 1 i) (add i))", "true"},
		{"(less (add 1/2 1/2) 2)", "(less (add 1/2 1/2) 2)"},
		{"(most (times 1/2 2) 2)", "(most (times 1/2 2) 2)"},
	})
}
