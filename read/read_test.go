package read_test

import (
	"fmt"
	"slices"
	"strings"
	"testing"

	"umpirage/api"
	"umpirage/ask"
	"umpirage/read"
)

var fine = api.Fault{}

func fault(code, at int) api.Fault { return api.Fault{Code: code, At: at} }

func node(op int, kids ...int) api.Node { return api.Node{Op: op, Kids: kids} }

func named(name string, kids ...int) api.Node {
	return api.Node{Op: api.OpName, Name: name, Kids: kids}
}

func number(op, n, d int, kids ...int) api.Node { return api.Node{Op: op, N: n, D: d, Kids: kids} }

func decl(name string, sort int, args int) api.Decl {
	return api.Decl{Name: name, Sort: sort, Args: slices.Repeat([]int{api.SortThing}, args)}
}

// declared are the names of the expressions in these tests, and declarations is their textual form.
var declared = []api.Decl{
	decl("p", api.SortBool, 0),
	decl("q", api.SortBool, 0),
	decl("i", api.SortInt, 0),
	decl("r", api.SortReal, 0),
	decl("t", api.SortThing, 0),
	decl("a", api.SortArray, 0),
	decl("v", api.SortWord+1, 0),
	decl("w", api.SortWord+8, 0),
	decl("f", api.SortThing, 1),
	decl("g", api.SortBool, 2),
	decl("h", api.SortWord+3, 8),
	decl("b", api.SortBool, 0),
}

const declarations = `(decl p () bool)
(decl q () bool)
(decl i () int)
(decl r () real)
(decl t () thing)
(decl a () array)
(decl v () word1)
(decl w () word8)
(decl f (thing) thing)
(decl g (thing thing) bool)
(decl h (thing thing thing thing thing thing thing thing) word3)
(decl b () bool)
`

// holding is a query over declared in which the last node is asserted.
func holding(nodes ...api.Node) api.Ask {
	return api.Ask{Decls: slices.Clone(declared), Nodes: nodes, Hold: []int{len(nodes) - 1}}
}

func equal(a, b api.Ask) bool {
	sameDecl := func(a, b api.Decl) bool { return a.Name == b.Name && a.Sort == b.Sort && slices.Equal(a.Args, b.Args) }
	return slices.EqualFunc(a.Decls, b.Decls, sameDecl) && slices.EqualFunc(a.Nodes, b.Nodes, sameNode) && slices.Equal(a.Hold, b.Hold)
}

func sameNode(a, b api.Node) bool {
	return a.Op == b.Op && a.Name == b.Name && a.N == b.N && a.D == b.D && slices.Equal(a.Kids, b.Kids)
}

// run reads a text twice: no state is kept, and the second result shares no memory with the first one.
func run(t *testing.T, text string, want api.Ask, wantNot api.Fault) {
	t.Helper()
	first, _ := read.Ask(text)
	overwrite(first)
	if got, not := read.Ask(text); !equal(got, want) || not != wantNot {
		t.Errorf("Ask(%q) = %v %v, want %v %v", text, got, not, want, wantNot)
	}
}

func wrong(t *testing.T, text string, want api.Fault) {
	t.Helper()
	run(t, text, api.Ask{}, want)
}

// overwrite changes all memory of a query.
func overwrite(a api.Ask) {
	for i := range a.Decls {
		for k := range a.Decls[i].Args {
			a.Decls[i].Args[k] = 77
		}
		a.Decls[i] = api.Decl{}
	}
	for i := range a.Nodes {
		for k := range a.Nodes[i].Kids {
			a.Nodes[i].Kids[k] = 77
		}
		a.Nodes[i] = api.Node{}
	}
	for i := range a.Hold {
		a.Hold[i] = 77
	}
}

// expressions has expressions over declared with their nodes, in the textual form that Text returns.
var expressions = []struct {
	text  string
	nodes []api.Node
}{
	{"true", []api.Node{node(api.OpTrue)}},
	{"false", []api.Node{node(api.OpFalse)}},
	{"p", []api.Node{named("p")}},
	{"b", []api.Node{named("b")}},
	{"(g t t)", []api.Node{named("t"), named("g", 0, 0)}},
	{"(g (f (f t)) t)", []api.Node{named("t"), named("f", 0), named("f", 1), named("g", 2, 0)}},
	{"(not p)", []api.Node{named("p"), node(api.OpNot, 0)}},
	{"(and)", []api.Node{node(api.OpAnd)}},
	{"(or)", []api.Node{node(api.OpOr)}},
	{"(and q)", []api.Node{named("q"), node(api.OpAnd, 0)}},
	{"(or q p q)", []api.Node{named("q"), named("p"), node(api.OpOr, 0, 1, 0)}},
	{"(iff p q)", []api.Node{named("p"), named("q"), node(api.OpIff, 0, 1)}},
	{"(pick q p b)", []api.Node{named("q"), named("p"), named("b"), node(api.OpPick, 0, 1, 2)}},
	{"(same i r)", []api.Node{named("i"), named("r"), node(api.OpSame, 0, 1)}},
	{"(same w w)", []api.Node{named("w"), node(api.OpSame, 0, 0)}},
	{"(same (add) i)", []api.Node{node(api.OpAdd), named("i"), node(api.OpSame, 0, 1)}},
	{"(less (add i) (add r i i))", []api.Node{named("i"), node(api.OpAdd, 0), named("r"), node(api.OpAdd, 2, 0, 0), node(api.OpLess, 1, 3)}},
	{"(less 0 r)", []api.Node{number(api.OpNum, 0, 1), named("r"), node(api.OpLess, 0, 1)}},
	{"(most -7/2 12)", []api.Node{number(api.OpNum, -7, 2), number(api.OpNum, 12, 1), node(api.OpMost, 0, 1)}},
	{"(most i -1)", []api.Node{named("i"), number(api.OpNum, -1, 1), node(api.OpMost, 0, 1)}},
	{"(same (times 2 i) (times -2/3 i))", []api.Node{named("i"), number(api.OpTimes, 2, 1, 0), number(api.OpTimes, -2, 3, 0), node(api.OpSame, 1, 2)}},
	{"(same (times 0 r) (times 1 1))", []api.Node{named("r"), number(api.OpTimes, 0, 1, 0), number(api.OpNum, 1, 1), number(api.OpTimes, 1, 1, 2), node(api.OpSame, 1, 3)}},
	{"(wless v b0)", []api.Node{named("v"), number(api.OpWord, 0, 1), node(api.OpWLess, 0, 1)}},
	{"(wless (wnot v) v)", []api.Node{named("v"), node(api.OpWNot, 0), node(api.OpWLess, 1, 0)}},
	{"(same (wand w b00001111) (wor w b10000000))", []api.Node{
		named("w"), number(api.OpWord, 15, 8), node(api.OpWAnd, 0, 1), number(api.OpWord, 128, 8), node(api.OpWOr, 0, 3), node(api.OpSame, 2, 4),
	}},
	{"(same (wxor b011 b110) (wadd b011 b101))", []api.Node{
		number(api.OpWord, 3, 3), number(api.OpWord, 6, 3), node(api.OpWXor, 0, 1), number(api.OpWord, 5, 3), node(api.OpWAdd, 0, 3), node(api.OpSame, 2, 4),
	}},
	{"(wless (wtimes w w) (wleft 3 w))", []api.Node{named("w"), node(api.OpWTimes, 0, 0), number(api.OpWLeft, 3, 0, 0), node(api.OpWLess, 1, 2)}},
	{"(same (wleft 0 v) (wleft 8 v))", []api.Node{named("v"), number(api.OpWLeft, 0, 0, 0), number(api.OpWLeft, 8, 0, 0), node(api.OpSame, 1, 2)}},
	{"(same (h t t t t t t t t) b111)", []api.Node{named("t"), named("h", 0, 0, 0, 0, 0, 0, 0, 0), number(api.OpWord, 7, 3), node(api.OpSame, 1, 2)}},
	{"(same (get (put a t (f t)) t) t)", []api.Node{
		named("a"), named("t"), named("f", 1), node(api.OpPut, 0, 1, 2), node(api.OpGet, 3, 1), node(api.OpSame, 4, 1),
	}},
}

// R6.1 and R6.2
func TestExpressions(t *testing.T) {
	for _, e := range expressions {
		text := declarations + "(hold " + e.text + ")\n"
		run(t, text, holding(e.nodes...), fine)
		spaced := strings.NewReplacer("(", " ( ", ")", "\t)\n", " ", "\r ; )\n").Replace(text)
		run(t, spaced, holding(e.nodes...), fine)
	}
}

// R6.1 and R6.2: declarations.
func TestDeclarations(t *testing.T) {
	run(t, "", api.Ask{}, fine)
	run(t, " ; (hold", api.Ask{}, fine)
	run(t, declarations, api.Ask{Decls: declared}, fine)
	words := []string{"bool", "int", "real", "thing", "array", "word1", "word2", "word3", "word4", "word5", "word6", "word7", "word8"}
	for i, word := range words {
		sort := []int{1, 2, 3, 4, 5, 11, 12, 13, 14, 15, 16, 17, 18}[i]
		for args := range 12 {
			text := "(decl x (" + strings.Repeat("thing ", args) + ") " + word + ")"
			switch {
			case args > api.MaxKids:
				wrong(t, text, fault(api.ErrSize, 0))
			case args > 0 && word == "array":
				wrong(t, text, fault(api.ErrKind, 0))
			default:
				run(t, text, api.Ask{Decls: []api.Decl{decl("x", sort, args)}}, fine)
			}
		}
	}
	for _, word := range []string{
		"word0", "word9", "word10", "word", "word01", "word1a", "Bool", "BOOL", "boo", "boolean", "ints", "things", "1", "b1", "true",
		"decl", "hold", "x", "sort", "word1/2", "word-1", "-", "!",
	} {
		wrong(t, "(decl x () "+word+")", fault(api.ErrKind, 0))
		wrong(t, "(decl y () bool)(decl x (thing) "+word+")", fault(api.ErrKind, 1))
	}
}

// R6.2: expressions at the top that are neither declarations nor assertions.
func TestTopLevel(t *testing.T) {
	for _, top := range []string{
		"p", "decl", "hold", "true", "1", "b1", "()", "(())", "((hold true))", "((decl x () bool))", "(foo)", "(foo true)", "(p)", "(true)", "(not true)",
		"(hold)", "(hold true true)", "(hold true ())", "(hold (hold true))", "(hold ())", "(Hold true)", "(HOLD true)", "(holds true)", "((hold) true)",
		"(assert true)", "(true hold)",
		"(decl)", "(decl x)", "(decl x ())", "(decl x () bool bool)", "(decl x () bool ())", "(decl x bool)", "(decl x bool ())", "(decl () bool)",
		"(decl () () bool)", "(decl (x) () bool)", "(decl x thing bool)", "(decl x thing thing)", "(decl x (bool) bool)", "(decl x (thing bool) bool)",
		"(decl x (bool thing) bool)", "(decl x (things) bool)", "(decl x (()) bool)", "(decl x ((thing)) bool)", "(decl x (thing (thing)) bool)",
		"(decl x () ())", "(decl x () (bool))", "(decl x (thing) (word 8))", "(Decl x () bool)", "(x () bool)", "(decls x () bool)", "((decl) x () bool)",
	} {
		wrong(t, top, fault(api.ErrText, 0))
		wrong(t, "(decl z () bool)"+top+"(foo)", fault(api.ErrText, 1))
		wrong(t, "(decl z () bool)(hold z)(hold z)"+top, fault(api.ErrText, 3))
	}
	for _, d := range []string{"(decl x () bool)", "(decl x (thing thing) array)", "(decl x () foo)", "(decl and () bool)", "(decl x () ())", "(decl p () bool)"} {
		wrong(t, "(hold true)"+d, fault(api.ErrText, 1))
		wrong(t, "(decl p () bool)(hold p)(hold p)"+d+"(hold p)", fault(api.ErrText, 3))
	}
}

var operatorWords = []string{
	"true", "false", "not", "and", "or", "iff", "pick", "same", "add", "times", "less", "most",
	"wnot", "wand", "wor", "wxor", "wadd", "wtimes", "wless", "wleft", "get", "put",
}

// R6.1: which words cannot be names, in both directions.
func TestReserved(t *testing.T) {
	reserved := slices.Clone(operatorWords)
	for _, word := range goodNumbers {
		reserved = append(reserved, word.text)
	}
	for width := 1; width <= api.MaxWord-1; width++ {
		reserved = append(reserved, "b"+strings.Repeat("0", width), "b"+strings.Repeat("1", width), "b"+strings.Repeat("0", width-1)+"1")
	}
	for _, word := range reserved {
		wrong(t, "(decl "+word+" () bool)", fault(api.ErrName, 0))
		wrong(t, "(decl x () bool)(decl "+word+" (thing) int)(foo)", fault(api.ErrName, 1))
		last := "not"
		if word == last {
			last = "b0"
		}
		a := api.Ask{Decls: []api.Decl{decl("x", api.SortInt, 0), decl(word, api.SortBool, 0), decl("y", api.SortInt, 0), decl(last, api.SortInt, 0)}}
		wantText(t, a, "", fault(api.ErrName, 1))
	}
	for _, word := range []string{
		"decl", "hold", "thing", "bool", "int", "real", "array", "word1", "word8", "word0", "b", "B", "B1", "b2", "b12", "b0a", "b_1", "_b1", "bb0", "b1b",
		"true1", "True", "nott", "xor", "AND", "w_not", "_", "a", "put_", "_123", "ite", "num",
	} {
		a := api.Ask{Decls: []api.Decl{decl(word, api.SortBool, 0)}, Nodes: []api.Node{named(word)}, Hold: []int{0}}
		text := "(decl " + word + " () bool)\n(hold " + word + ")\n"
		run(t, text, a, fine)
		wantText(t, a, text, fine)
		f := api.Ask{
			Decls: []api.Decl{decl(word, api.SortThing, 2), decl("x", api.SortThing, 0)},
			Nodes: []api.Node{named("x"), named(word, 0, 0), node(api.OpSame, 0, 1)}, Hold: []int{2},
		}
		text = "(decl " + word + " (thing thing) thing)\n(decl x () thing)\n(hold (same x (" + word + " x x)))\n"
		run(t, text, f, fine)
		wantText(t, f, text, fine)
	}
}

// R6.2: words that are no names at all are found only by ask.Check.
func TestNoNames(t *testing.T) {
	for _, word := range []string{"x-y", "-", "007", "1x", "00", "-0", "3/1", "3/0", "12345678", "abcdefghijklm", "+1", "x.", "1.5", "b1/2", "-b1", "/", "1/", "b0b?"} {
		text := "(decl " + word + " () bool)"
		wrong(t, text, fault(api.ErrName, 0))
		wrong(t, text+"(hold "+word+")", fault(api.ErrName, 0))
		wrong(t, text+"(hold x)", fault(api.ErrText, 1))
		wrong(t, text+"(decl x () foo)", fault(api.ErrKind, 1))
		wrong(t, "(decl x () bool)"+text+"(decl and () bool)", fault(api.ErrName, 2))
		wrong(t, "(decl x () bool)"+text+text, fault(api.ErrName, 1))
		wrong(t, "(hold "+word+")", fault(api.ErrText, 0))
	}
	wrong(t, "(decl x () bool)(decl x () int)", fault(api.ErrTwice, 1))
}

// R6.2: every operator word, and names, with each number of expressions behind them.
func TestCounts(t *testing.T) {
	operands := map[string]string{
		"add": "i", "times": "i", "less": "i", "most": "i", "same": "i", "wnot": "w", "wand": "w", "wor": "w", "wxor": "w", "wadd": "w", "wtimes": "w", "wless": "w", "wleft": "w",
	}
	counts := map[string]int{"not": 1, "times": 1, "wnot": 1, "wleft": 1, "pick": 3, "put": 3, "and": -1, "or": -1, "add": -1}
	sorts := map[string]string{"add": "i", "times": "i", "wnot": "w", "wand": "w", "wor": "w", "wxor": "w", "wadd": "w", "wtimes": "w", "wleft": "w"}
	for _, word := range operatorWords[2:] {
		operand, found := operands[word]
		if !found {
			operand = "p"
		}
		wants, found := counts[word]
		if !found {
			wants = 2
		}
		for n := range 12 {
			e := operator(word) + strings.Repeat(" "+operand, n)
			switch {
			case word == "get":
				e = word + strings.Repeat(" t", n)
				if n > 0 {
					e = word + " a" + strings.Repeat(" t", n-1)
				}
				wantCount(t, "(same ("+e+") t)", n == 2, min(n, 2))
			case word == "put":
				e = word + strings.Repeat(" t", n)
				if n > 0 {
					e = word + " a" + strings.Repeat(" t", n-1)
				}
				wantCount(t, "(same (get ("+e+") t) t)", n == 3, min(n, 2))
			case sorts[word] != "":
				wantCount(t, "(same ("+e+") "+sorts[word]+")", n == wants || wants < 0 && n <= api.MaxKids, min(n, 1))
			default:
				wantCount(t, "("+e+")", n == wants || wants < 0 && n <= api.MaxKids, min(n, 1))
			}
		}
	}
	for _, word := range []string{"true", "false", "p", "f", "g", "h", "1", "-1/2", "b01", "undeclared", "decl", "hold", "thing", "()", "(not)", "(p)"} {
		wrong(t, declarations+"(hold ("+word+"))", fault(api.ErrText, len(declared)))
	}
	for _, word := range []string{"true", "false", "1", "-1/2", "b01", "undeclared", "decl", "hold", "thing", "()", "(not)", "(f)"} {
		for n := range 10 {
			wrong(t, declarations+"(hold ("+word+" "+strings.Repeat(" t", n)+"))", fault(api.ErrText, len(declared)))
		}
	}
	for n := 1; n < 12; n++ {
		behind := strings.Repeat(" t", n) + ")"
		wantCount(t, "(p"+behind, n == 0, 1)
		wantCount(t, "(same (f"+behind+" t)", n == 1, 1)
		wantCount(t, "(g"+behind, n == 2, 1)
		wantCount(t, "(same (h"+behind+" b000)", n == 8, 1)
	}
	wantCount(t, "(same f t)", false, 0)
	wantCount(t, "g", false, 0)
	wantCount(t, "(same b000 h)", false, 1)
}

// operator is an operator word with the number that it may want.
func operator(word string) string {
	if word == "times" || word == "wleft" {
		return word + " 3"
	}
	return word
}

// wantCount wants a Bool to be read, or to be an error of ask.Check at a node.
func wantCount(t *testing.T, e string, good bool, at int) {
	t.Helper()
	want := fault(api.ErrSize, at)
	if good {
		want = fine
	}
	if _, not := read.Ask(declarations + "(hold " + e + ")"); not != want {
		t.Errorf("Ask of %s: %v, want %v", e, not, want)
	}
}

// goodNumbers are words that denote numbers; whether they are in lowest terms and not too large is not said.
var goodNumbers = []struct {
	text string
	n, d int
}{
	{"0", 0, 1}, {"1", 1, 1}, {"-1", -1, 1}, {"9", 9, 1}, {"10", 10, 1}, {"-10", -10, 1}, {"1234567", 1234567, 1}, {"9999999", 9999999, 1},
	{"-9999999", -9999999, 1}, {"1000000", 1000000, 1}, {"-1000000", -1000000, 1}, {"1000001", 1000001, 1}, {"-1000001", -1000001, 1},
	{"1/2", 1, 2}, {"-1/2", -1, 2}, {"3/2", 3, 2}, {"3/9", 3, 9}, {"2/10", 2, 10}, {"3/10", 3, 10}, {"0/2", 0, 2}, {"0/9", 0, 9}, {"6/2", 6, 2},
	{"1/999999", 1, 999999}, {"1/1000000", 1, 1000000}, {"-1/1000001", -1, 1000001}, {"1/9999999", 1, 9999999},
	{"9999999/9999998", 9999999, 9999998}, {"-999999/1000000", -999999, 1000000}, {"-9999999/9999999", -9999999, 9999999}, {"7/1234567", 7, 1234567},
}

var badNumbers = []string{
	"00", "01", "007", "-01", "-00", "-0", "-0/2", "00/2", "01/2", "-01/2", "1/02", "1/002", "0000001", "00000001", "10000000", "12345678", "-12345678", "99999999",
	"1/10000000", "1/12345678", "12345678/5", "1/00000002", "3/0", "3/1", "3/00", "3/01", "0/0", "0/1", "-3/1", "-3/0", "3/-2", "3/+2", "-3/-2", "+3", "+0", "--3",
	"-", "/", "-/", "3/", "/2", "-/2", "3//2", "3/2/1", "1/2/", "3.0", "3e1", "0x1", "1_0", "1'0", "3-", "3-2", "a", "1a", "a1", "1/a", "3/2a", "#1", "1,0", "1/2b", "b",
	"99999999999999999999", "-99999999999999999999", "1/9223372036854775808", "18446744073709551617", "4294967297",
}

func lowest(n, d int) bool {
	for k := 2; k <= d; k++ {
		if n%k == 0 && d%k == 0 {
			return false
		}
	}
	return n >= -api.MaxWhole && n <= api.MaxWhole && d <= api.MaxWhole
}

// R6.1 and R6.2: words that denote numbers, and words that do not.
func TestNumbers(t *testing.T) {
	for _, c := range goodNumbers {
		if lowest(c.n, c.d) {
			run(t, declarations+"(hold (less "+c.text+" r))", holding(number(api.OpNum, c.n, c.d), named("r"), node(api.OpLess, 0, 1)), fine)
			run(t, declarations+"(hold (less r (times "+c.text+" r)))", holding(named("r"), number(api.OpTimes, c.n, c.d, 0), node(api.OpLess, 0, 1)), fine)
		} else {
			wrong(t, declarations+"(hold (less r "+c.text+"))", fault(api.ErrRange, 1))
			wrong(t, declarations+"(hold (less i (times "+c.text+" r)))", fault(api.ErrRange, 2))
		}
		switch {
		case c.d > 1:
			wrong(t, declarations+"(hold (wless w (wleft "+c.text+" w)))", fault(api.ErrText, len(declared)))
		case c.n < 0 || c.n > api.MaxBits:
			wrong(t, declarations+"(hold (wless w (wleft "+c.text+" w)))", fault(api.ErrRange, 1))
		default:
			run(t, declarations+"(hold (wless w (wleft "+c.text+" w)))", holding(named("w"), number(api.OpWLeft, c.n, 0, 0), node(api.OpWLess, 0, 1)), fine)
		}
	}
	for n := range 12 {
		text := declarations + fmt.Sprintf("(hold (wless v (wleft %d v)))", n)
		if n <= api.MaxBits {
			run(t, text, holding(named("v"), number(api.OpWLeft, n, 0, 0), node(api.OpWLess, 0, 1)), fine)
		} else {
			wrong(t, text, fault(api.ErrRange, 1))
		}
	}
	for _, word := range badNumbers {
		if word != "a" && word != "b" {
			wrong(t, declarations+"(hold (less r "+word+"))", fault(api.ErrText, len(declared)))
		}
		wrong(t, declarations+"(hold true)(hold (less r (times "+word+" r)))", fault(api.ErrText, len(declared)+1))
		wrong(t, declarations+"(hold (wless w (wleft "+word+" w)))", fault(api.ErrText, len(declared)))
	}
}

// R6.2: what times and wleft need ahead of their children.
func TestNumberAhead(t *testing.T) {
	for _, word := range []string{"times", "wleft"} {
		for _, behind := range []string{"", " r", " w", " r 2", " w 2", " () w", " (2) w", " true w", " b1 w", " b w", " (add 2) r", " undeclared w", " 2 undeclared", " 2 ()", " not w"} {
			wrong(t, declarations+"(hold (less r ("+word+behind+")))", fault(api.ErrText, len(declared)))
		}
	}
	wrong(t, declarations+"(hold (less i (times 2)))", fault(api.ErrSize, 1))
	wrong(t, declarations+"(hold (wless w (wleft 2)))", fault(api.ErrSize, 1))
	wrong(t, declarations+"(hold (less i (times 2 3 4)))", fault(api.ErrSize, 3))
	wrong(t, declarations+"(hold (wless w (wleft 2 w w)))", fault(api.ErrSize, 1))
	wrong(t, declarations+"(hold (wless w (wleft -1 w)))", fault(api.ErrRange, 1))
	run(t, declarations+"(hold (less (times 2 3) 2))", holding(
		number(api.OpNum, 3, 1), number(api.OpTimes, 2, 1, 0), number(api.OpNum, 2, 1), node(api.OpLess, 1, 2)), fine)
}

// R6.1 and R6.2: bit vectors of every width.
func TestBits(t *testing.T) {
	for width := 1; width <= api.MaxWord-1; width++ {
		for n := range 1 << min(width, api.MaxBits) {
			text := fmt.Sprintf("%s(hold (same b%0*b b1))", declarations, width, n)
			want := fault(api.ErrSort, 2)
			switch {
			case width > api.MaxBits:
				wrong(t, text, fault(api.ErrRange, 0))
				continue
			case width == 1 && n == 1:
				run(t, text, holding(number(api.OpWord, 1, 1), node(api.OpSame, 0, 0)), fine)
				continue
			case width == 1:
				want = fine
			}
			if _, not := read.Ask(text); not != want {
				t.Errorf("Ask(%q): %v, want %v", text, not, want)
			}
			text = fmt.Sprintf("%s(hold (wless b%0*b (wnot b%0*b)))", declarations, width, n, width, n)
			run(t, text, holding(number(api.OpWord, n, width), node(api.OpWNot, 0), node(api.OpWLess, 0, 1)), fine)
		}
	}
	wrong(t, "(hold (wless b b))", fault(api.ErrText, 0))
	wrong(t, "(hold b)", fault(api.ErrText, 0))
	for _, word := range []string{"b2", "b01a", "B01", "b-1", "b0_1", "bb1", "b01/2", "-b1", "01b", "b+1", "#b01", "0b01", "ba1", "b1b"} {
		wrong(t, declarations+"(hold (wless "+word+" b01))", fault(api.ErrText, len(declared)))
		wrong(t, declarations+"(hold (wless b01 (wnot "+word+")))", fault(api.ErrText, len(declared)))
	}
}

// R6.2: equal nodes are made once, children first and from left to right.
func TestEqualNodes(t *testing.T) {
	run(t, declarations+"(hold p)(hold (and p q))(hold p)(hold (or (and p q) q (and q p)))(hold (and p q))", api.Ask{
		Decls: declared,
		Nodes: []api.Node{named("p"), named("q"), node(api.OpAnd, 0, 1), node(api.OpAnd, 1, 0), node(api.OpOr, 2, 1, 3)},
		Hold:  []int{0, 2, 0, 4, 2},
	}, fine)
	run(t, "(hold (same (add 1 -1 1/2) (add (times 1 1) (times -1 1) (times 1/2 1))))", api.Ask{
		Nodes: []api.Node{
			number(api.OpNum, 1, 1), number(api.OpNum, -1, 1), number(api.OpNum, 1, 2), node(api.OpAdd, 0, 1, 2),
			number(api.OpTimes, 1, 1, 0), number(api.OpTimes, -1, 1, 0), number(api.OpTimes, 1, 2, 0), node(api.OpAdd, 4, 5, 6), node(api.OpSame, 3, 7),
		},
		Hold: []int{8},
	}, fine)
	// the same numbers, of other operators or widths
	run(t, declarations+"(hold (same (wleft 1 (wleft 1 b01)) b01))(hold (same (wleft 2 b001) b001))(hold (less 1 1))(hold (most 1 1))", api.Ask{
		Decls: declared,
		Nodes: []api.Node{
			number(api.OpWord, 1, 2), number(api.OpWLeft, 1, 0, 0), number(api.OpWLeft, 1, 0, 1), node(api.OpSame, 2, 0),
			number(api.OpWord, 1, 3), number(api.OpWLeft, 2, 0, 4), node(api.OpSame, 5, 4),
			number(api.OpNum, 1, 1), node(api.OpLess, 7, 7), node(api.OpMost, 7, 7),
		},
		Hold: []int{3, 6, 8, 9},
	}, fine)
	run(t, "(hold (and (and) (or) (and (and)) true false true))(hold (or))", api.Ask{
		Nodes: []api.Node{node(api.OpAnd), node(api.OpOr), node(api.OpAnd, 0), node(api.OpTrue), node(api.OpFalse), node(api.OpAnd, 0, 1, 2, 3, 4, 3)},
		Hold:  []int{5, 1},
	}, fine)
	// equal nodes with errors are one node too
	wrong(t, declarations+"(hold (and (or p) (not) (not)))(hold (not))", fault(api.ErrSize, 2))
	wrong(t, declarations+"(hold (or 5 5 (not 5)))(hold (not))", fault(api.ErrSort, 1))
}

// R6.2: several errors at once.
func TestOrderOfErrors(t *testing.T) {
	for _, c := range []struct {
		text string
		want api.Fault
	}{
		// the error of sexp.Parse comes first
		{"(foo) (", fault(api.ErrText, 7)},
		{"(foo))", fault(api.ErrText, 5)},
		{"(foo) " + strings.Repeat("a", api.MaxWord+1), fault(api.ErrName, 6)},
		{"(hold (and (hold\x00", fault(api.ErrText, 16)},
		{"(decl not () bool) \x7f", fault(api.ErrText, 19)},
		{"(foo) " + strings.Repeat("(", 50), fault(api.ErrMuch, 47)},
		{"(foo)" + strings.Repeat(" ", api.MaxText), fault(api.ErrMany, 0)},
		// then that of the first expression with one
		{"(foo) (decl and () bool) (decl x () foo)", fault(api.ErrText, 0)},
		{"(decl and () bool) (decl x () foo) (foo)", fault(api.ErrName, 0)},
		{"(decl x () foo) (foo) (decl and () bool)", fault(api.ErrKind, 0)},
		{"(decl x () bool) (decl x () foo) (foo)", fault(api.ErrKind, 1)},
		{"(decl x () bool) (decl x () bool) (foo)", fault(api.ErrText, 2)},
		{"(hold x) (decl x () bool)", fault(api.ErrText, 0)},
		{"(hold true) (decl and () foo)", fault(api.ErrText, 1)},
		{"(hold 1) (hold (not)) (hold 1/3/5)", fault(api.ErrText, 2)},
		{"(decl x () bool) (hold (x x)) (hold y) (foo)", fault(api.ErrText, 2)},
		// of a declaration: its form, its sort, its name
		{"(decl and (foo) foo)", fault(api.ErrText, 0)},
		{"(decl and () ())", fault(api.ErrText, 0)},
		{"(decl and () foo)", fault(api.ErrKind, 0)},
		{"(decl 1 () word9)", fault(api.ErrKind, 0)},
		{"(decl 1 (thing thing) array)", fault(api.ErrName, 0)},
		{"(decl b1 (" + strings.Repeat("thing ", 9) + ") int)", fault(api.ErrName, 0)},
		{"(decl x (" + strings.Repeat("thing ", 9) + ") foo)", fault(api.ErrKind, 0)},
		// the error of ask.Check comes last
		{"(decl x (" + strings.Repeat("thing ", 9) + ") int) (hold y)", fault(api.ErrText, 1)},
		{"(decl x (thing) array) (hold (not)) (hold ())", fault(api.ErrText, 2)},
		{"(decl x (thing) array) (hold (not)) (hold 1)", fault(api.ErrKind, 0)},
		{"(decl x () int) (decl x-y () bool) (hold x)", fault(api.ErrName, 1)},
		{"(decl x () int) (decl x () bool) (decl 1x () int) (hold x)", fault(api.ErrTwice, 1)},
		{"(decl x () int) (hold x)", fault(api.ErrSort, 0)},
		{"(hold true) (hold (add)) (hold 1)", fault(api.ErrSort, 1)},
		{"(hold (and (add 2/4 x) (not)))", fault(api.ErrText, 0)},
		{"(hold (and (add 2/4 1) (not)))", fault(api.ErrRange, 0)},
		{"(hold (and (add 1/2 1) (not)))", fault(api.ErrSize, 3)},
		{"(hold (and (add 1/2 1) (not true)))", fault(api.ErrSort, 5)},
		{"(hold (not 2/4)) (hold (times 3))", fault(api.ErrRange, 0)},
		{"(hold (not (not 1 1) 2/4))", fault(api.ErrSize, 1)},
	} {
		wrong(t, c.text, c.want)
	}
	many := strings.Repeat("(decl x () int)", api.MaxDecls)
	wrong(t, many, fault(api.ErrTwice, 1))
	wrong(t, many+"(decl y () int)", fault(api.ErrMany, 0))
	wrong(t, many+"(decl y () int)(hold true)(foo)", fault(api.ErrText, api.MaxDecls+2))
}

// R6.2: the limits of queries.
func TestManyNodes(t *testing.T) {
	numbers := func(n int) string {
		text := ""
		for i := range n {
			text += fmt.Sprintf("(hold(less %d %d))", i, i)
		}
		return text
	}
	got, not := read.Ask(numbers(api.MaxNodes / 2))
	if not != fine || len(got.Nodes) != api.MaxNodes || ask.Check(got) != fine {
		t.Errorf("%v, and %d nodes", not, len(got.Nodes))
	}
	wrong(t, numbers(api.MaxNodes/2)+"(hold true)", fault(api.ErrMany, 0))
	wrong(t, numbers(api.MaxNodes/2)+"(hold true)(hold)", fault(api.ErrText, api.MaxNodes/2+1))
	got, not = read.Ask(strings.Repeat("(hold true)", api.MaxNodes))
	if not != fine || len(got.Nodes) != 1 || len(got.Hold) != api.MaxNodes {
		t.Errorf("%v, %d nodes, %d assertions", not, len(got.Nodes), len(got.Hold))
	}
	wrong(t, strings.Repeat("(hold true)", api.MaxNodes+1), fault(api.ErrMany, 0))
	wrong(t, "(hold (and"+strings.Repeat(" true", 700)+"))", fault(api.ErrSize, 1))
}

// R6.2: texts and depths at their limits, and one more.
func TestLimitsOfAsk(t *testing.T) {
	text := "(decl p () bool)(hold (not p))"
	want, _ := read.Ask(text)
	run(t, text+strings.Repeat(" ", api.MaxText-len(text)), want, fine)
	wrong(t, text+strings.Repeat(" ", api.MaxText-len(text)+1), fault(api.ErrMany, 0))

	deep := "(hold " + strings.Repeat("(not ", api.MaxNest-1) + "true" + strings.Repeat(")", api.MaxNest)
	nodes := []api.Node{node(api.OpTrue)}
	for i := range api.MaxNest - 1 {
		nodes = append(nodes, node(api.OpNot, i))
	}
	run(t, deep, api.Ask{Nodes: nodes, Hold: []int{api.MaxNest - 1}}, fine)
	deep = "(hold " + strings.Repeat("(not ", api.MaxNest) + "true" + strings.Repeat(")", api.MaxNest+1)
	wrong(t, deep, fault(api.ErrMuch, len("(hold ")+len("(not ")*api.MaxNest-len("not ")))
}
