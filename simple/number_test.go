package simple_test

import (
	"math/rand"
	"slices"
	"strconv"
	"strings"
	"testing"

	"umpirage/api"
	"umpirage/mean"
)

// wantNumbers wants sums and products to become such expressions; whole tells whether they are Ints.
func wantNumbers(t *testing.T, whole bool, rules []rule) {
	t.Helper()
	if whole {
		wantRules(t, "(same E j)", rules)
	}
	wantRules(t, "(less E y)", rules)
	wantRules(t, "(most y E)", rules)
}

// R8.2: sums of constants.
func TestSum(t *testing.T) {
	wantNumbers(t, true, []rule{
		{"(add)", "0"},
		{"(add 0)", "0"},
		{"(add 0 0)", "0"},
		{"(add 5)", "5"},
		{"(add 5 0)", "5"},
		{"(add 0 5)", "5"},
		{"(add 2 3)", "5"},
		{"(add 2 -3)", "-1"},
		{"(add 1 2 3 4 5 6 7 8)", "36"},
		{"(add (add 1 2) (add 3 4))", "10"},
		{"(add 1 (times 3 2))", "7"},
		{"(add 1 -1)", "0"},
		{"(add 999999 1)", "1000000"},
		{"(add 1000000 1)", "(add 1000000 1)"},
		{"(add 1000000 1 -1)", "1000000"},
		{"(add 1000000 0 1)", "(add 1000000 1)"},
		{"(add -999999 -1)", "-1000000"},
		{"(add -1000000 -1)", "(add -1000000 -1)"},
		{"(add (add 1000000 1) -1)", "(add (add 1000000 1) -1)"},
		{"(add 1000000 1000000 -1000000 -1000000)", "0"},
	})
	wantNumbers(t, false, []rule{
		{"(add 1/2)", "1/2"},
		{"(add 1/2 1)", "3/2"},
		{"(add 1/2 1/3)", "5/6"},
		{"(add 1/2 -1/3)", "1/6"},
		{"(add 1/2 1/2 1/2)", "3/2"},
		{"(add 1/2 0)", "1/2"},
		{"(add 1/6 1/6)", "1/3"},
		{"(add 499999/2 500000)", "(add 499999/2 500000)"},
		{"(add 499999/2 250000)", "999999/2"},
		{"(add -499999/2 -250000)", "-999999/2"},
		{"(add -499999/2 -250001)", "(add -499999/2 -250001)"},
		{"(add 1/1000 1/1001)", "(add 1/1000 1/1001)"},
		{"(add 1/999 1/1000)", "1999/999000"},
	})
}

// R8.2: sums of constants with another sort.
func TestSumOfAnotherSort(t *testing.T) {
	wantNumbers(t, false, []rule{
		{"(add 1/2 1/2)", "(add 1/2 1/2)"},
		{"(add 1/2 -1/2)", "(add 1/2 -1/2)"},
		{"(add 1/2 0 1/2)", "(add 1/2 1/2)"},
		{"(add 0 1/2 1/2 0)", "(add 1/2 1/2)"},
		{"(add 1/2 3/2 -2)", "(add 1/2 3/2 -2)"},
		{"(add (add 1/2 1/2) 1/2)", "(add (add 1/2 1/2) 1/2)"},
		{"(add 1/3 1/3 1/3)", "(add 1/3 1/3 1/3)"},
	})
}

// R8.2: sums where a partial sum is not valid for package frac, or just is.
func TestPartialSums(t *testing.T) {
	wantNumbers(t, false, []rule{
		// 999999 * 1000 is less than MaxNum, and with 1074 more than it.
		{"(add 1/999999 1/1000 -1/1000)", "1/999999"},
		{"(add 1/999999 1/1075 -1/1075)", "(add 1/999999 1/1075 -1/1075)"},
		{"(add 1/1075 -1/1075 1/999999)", "1/999999"},
		{"(add 1/999999 0 1/1075 -1/1075)", "(add 1/999999 1/1075 -1/1075)"},
		// 32768 * 32767 is less than MaxNum, and 32769 * 32768 more than it.
		{"(add 1/32768 1/32767 -1/32767)", "1/32768"},
		{"(add 1/32769 1/32768 -1/32768)", "(add 1/32769 1/32768 -1/32768)"},
		// 999999 + 1000 * 1072741 is less than MaxNum, and with 1072742 more than it.
		{"(add 999999/1000 1000000 72741 -1000000 -72741)", "999999/1000"},
		{"(add 999999/1000 1000000 72742 -1000000 -72742)", "(add 999999/1000 1000000 72742 -1000000 -72742)"},
		{"(add -999999/1000 -1000000 -72742 1000000 72742)", "(add -999999/1000 -1000000 -72742 1000000 72742)"},
	})
}

// R8.2: constants that are 0 among others.
func TestZeros(t *testing.T) {
	wantNumbers(t, true, []rule{
		{"(add i)", "i"},
		{"(add i 0)", "i"},
		{"(add 0 i)", "i"},
		{"(add 0 i 0)", "i"},
		{"(add 0 i 0 j)", "(add i j)"},
		{"(add i 1)", "(add i 1)"},
		{"(add 1 0 i)", "(add 1 i)"},
		{"(add i i)", "(add i i)"},
		{"(add i i 0)", "(add i i)"},
		{"(add (add) i)", "i"},
		{"(add (add 1 -1) i)", "i"},
		{"(add i (times 0 5))", "i"},
		{"(add i (times 0 j))", "(add i (times 0 j))"},
		{"(add (add i 0) (add 0 j))", "(add i j)"},
		{"(add (add i j) 0)", "(add i j)"},
		{"(add i j i j i j i 0)", "(add i j i j i j i)"},
	})
	wantNumbers(t, false, []rule{
		{"(add x)", "x"},
		{"(add x 0)", "x"},
		{"(add 0 x)", "x"},
		{"(add 0 i 0 x)", "(add i x)"},
		{"(add x 1/2 0)", "(add x 1/2)"},
		{"(add x 1/2 -1/2)", "(add x 1/2 -1/2)"},
		{"(add (add 1/2 1/2) 0)", "(add 1/2 1/2)"},
	})
}

// R8.2
func TestTimes(t *testing.T) {
	wantNumbers(t, true, []rule{
		{"(times 3 2)", "6"},
		{"(times -3 2)", "-6"},
		{"(times 0 2)", "0"},
		{"(times 2 0)", "0"},
		{"(times 1 2)", "2"},
		{"(times 1 i)", "i"},
		{"(times 1 (times 1 i))", "i"},
		{"(times 1 (times 2 i))", "(times 2 i)"},
		{"(times 2 (times 1 i))", "(times 2 i)"},
		{"(times 2 (times 3 5))", "30"},
		{"(times 2 (add i 0))", "(times 2 i)"},
		{"(times 2 (add 1 2))", "6"},
		{"(times 1000 1000)", "1000000"},
		{"(times 1000 -1000)", "-1000000"},
		{"(times 1001 1000)", "(times 1001 1000)"},
		{"(times -1001 1000)", "(times -1001 1000)"},
		{"(times 1000000 1000000)", "(times 1000000 1000000)"},
		{"(times 1000000 1)", "1000000"},
	})
	wantNumbers(t, false, []rule{
		{"(times 1/2 1)", "1/2"},
		{"(times 1/2 3)", "3/2"},
		{"(times 1/2 1/2)", "1/4"},
		{"(times 2/3 3/5)", "2/5"},
		{"(times 3 1/2)", "3/2"},
		{"(times 1 1/2)", "1/2"},
		{"(times 1 x)", "x"},
		{"(times 1/2 2)", "(times 1/2 2)"},
		{"(times 2 1/2)", "(times 2 1/2)"},
		{"(times 0 1/2)", "(times 0 1/2)"},
		{"(times 1/2 0)", "(times 1/2 0)"},
		{"(times 2/3 3/2)", "(times 2/3 3/2)"},
		{"(times 1/2 i)", "(times 1/2 i)"},
		{"(times 1/1000 1/1000)", "1/1000000"},
		{"(times 1/1001 1/1000)", "(times 1/1001 1/1000)"},
		{"(times 1/1000000 1/1000000)", "(times 1/1000000 1/1000000)"},
		{"(times 999/2 1001)", "999999/2"},
		{"(times 1001/2 1001)", "(times 1001/2 1001)"},
		{"(times -1001/2 1001)", "(times -1001/2 1001)"},
	})
}

// R8.2: operations on bit vectors.
func TestWords(t *testing.T) {
	wantRules(t, "(wless E w)", []rule{
		{"(wnot b101)", "b010"},
		{"(wand b110 b011)", "b010"},
		{"(wor b100 b001)", "b101"},
		{"(wxor b110 b011)", "b101"},
		{"(wadd b101 b110)", "b011"},
		{"(wtimes b011 b011)", "b001"},
		{"(wleft 1 b101)", "b010"},
		{"(wleft 0 b101)", "b101"},
		{"(wleft 0 v)", "v"},
		{"(wleft 0 (wnot v))", "(wnot v)"},
		{"(wleft 0 (wleft 1 v))", "(wleft 1 v)"},
		{"(wleft 1 (wleft 0 v))", "(wleft 1 v)"},
		{"(wleft 3 b111)", "b000"},
		{"(wleft 8 b111)", "b000"},
		{"(wnot (wand b110 (wor b001 b010)))", "b101"},
		{"(wand v b101)", "(wand v b101)"},
		{"(wand b101 v)", "(wand b101 v)"},
		{"(wadd (wadd b001 b001) v)", "(wadd b010 v)"},
		{"(pick (wless b001 b010) v b111)", "v"},
	})
	wantTruths(t, []rule{
		{"(wless b001 b010)", "true"},
		{"(wless b010 b001)", "false"},
		{"(wless b010 b010)", "false"},
		{"(wless b0 b1)", "true"},
		{"(wless (wadd b111 b001) b001)", "true"},
	})
}

// R8.2: every operation on bit vectors at every width, on words at random, as package mean has it.
func TestWordsLikeMean(t *testing.T) {
	random := rand.New(rand.NewSource(82))
	seen := map[int]int{}
	for range 4000 {
		bits := 1 + random.Intn(api.MaxBits)
		op := []int{api.OpWNot, api.OpWAnd, api.OpWOr, api.OpWXor, api.OpWAdd, api.OpWTimes, api.OpWLess, api.OpWLeft}[random.Intn(8)]
		last := node(op, 0, 1)
		if op == api.OpWNot || op == api.OpWLeft {
			last.Kids = []int{0}
		}
		if op == api.OpWLeft {
			last.N = random.Intn(api.MaxBits + 1)
		}
		other := number(api.OpWord, random.Intn(1<<bits), bits)
		a := api.Ask{Nodes: []api.Node{number(api.OpWord, random.Intn(1<<bits), bits), other, last, node(api.OpSame, 2, 1)}, Hold: []int{3}}
		if op == api.OpWLess {
			a.Nodes, a.Hold = a.Nodes[:3], []int{2}
		}
		holds, not := mean.Holds(a, api.World{})
		if not != fine {
			t.Fatalf("%v: %v", a, not)
		}
		if got := simplified(t, a); holds == (len(got.Hold) == 1) || !holds && got.Nodes[0].Op != api.OpFalse {
			t.Errorf("%v: got %v, but it is %v", a, got, holds)
		}
		if holds {
			seen[op]++
		}
	}
	for op := api.OpWNot; op <= api.OpWLeft; op++ {
		if seen[op] < 10 {
			t.Errorf("only %d with the operator %d hold", seen[op], op)
		}
	}
}

// R8.2
func TestGet(t *testing.T) {
	wantRules(t, "(same E t)", []rule{
		{"(get (put a t u) t)", "u"},
		{"(get (put a (f t u) u) (f t u))", "u"},
		{"(get (put (put b u t) t u) t)", "u"},
		{"(get (put (put b t t) t u) t)", "u"},
		{"(get (put (put b u t) t u) u)", "(get (put (put b u t) t u) u)"},
		{"(get (put a t u) (pick true t u))", "u"},
		{"(get (put a t (get (put b t u) t)) t)", "u"},
		{"(get (put a t (get a t)) t)", "(get a t)"},
		{"(get (put a t u) u)", "(get (put a t u) u)"},
		{"(get a t)", "(get a t)"},
		{"(get (put a u u) (get (put a t u) t))", "u"},
	})
}

// R8.2: OpAnd and OpOr take in the children of their own while these are not more than MaxKids together.
func TestRoom(t *testing.T) {
	for _, op := range []string{"and", "or"} {
		list := func(from, to int) string {
			var names []string
			for k := from; k < to; k++ {
				names = append(names, "c"+strconv.Itoa(k))
			}
			return strings.Join(names, " ")
		}
		over := func(kids ...string) string { return "(" + op + " " + strings.Join(kids, " ") + ")" }
		for _, c := range []struct{ from, to string }{
			{over(over(list(0, 7)), "c7"), over(list(0, 8))},
			{over(over(list(0, 8)), "c8"), over(over(list(0, 8)), "c8")},
			{over("c8", over(list(0, 7))), over("c8", list(0, 7))},
			{over("c8", over(list(0, 8))), over("c8", over(list(0, 8)))},
			{over(over(list(0, 8))), over(list(0, 8))},
			{over(over(list(0, 4)), over(list(4, 8))), over(list(0, 8))},
			{over(over(list(0, 4)), over(list(4, 9))), over(list(0, 4), over(list(4, 9)))},
			{over(over(list(0, 5)), over(list(5, 9))), over(list(0, 5), over(list(5, 9)))},
			{over(over(list(0, 8)), over("c8", "c9")), over(over(list(0, 8)), "c8", "c9")},
			{over(over(list(0, 8)), over("c8", "c9"), over(list(10, 14))), over(over(list(0, 8)), "c8", "c9", list(10, 14))},
			{over(over(list(0, 8)), over("c8", "c9"), over(list(10, 16))), over(over(list(0, 8)), "c8", "c9", over(list(10, 16)))},
			// The children of a child that is taken in are examined in turn.
			{over(over(over(list(0, 8)), "c8"), "c9"), over(over(list(0, 8)), "c8", "c9")},
			{over(over(over(list(0, 8)), "c8")), over(over(list(0, 8)), "c8")},
			// Repeated children and constants count until all children have been examined.
			{over(over(list(0, 7)), "c0", "c0"), over(over(list(0, 7)), "c0")},
			{over(over(list(0, 7)), "c0"), over(list(0, 7))},
			{over(over(list(0, 7)), over(list(0, 7))), over(list(0, 7), over(list(0, 7)))},
			{over(over(list(0, 7)), "true", "false"), map[string]string{"and": "false", "or": "true"}[op]},
			{over(over(list(0, 4)), over(list(0, 5))), over(list(0, 4), over(list(0, 5)))},
			{over("c8", "c8", over(list(0, 6))), over("c8", list(0, 6))},
			{over("c8", "c8", over(list(0, 7))), over("c8", over(list(0, 7)))},
		} {
			wantAmong(t, list(0, 16), c.from, c.to)
		}
		idle := map[string]string{"and": "true", "or": "false"}[op]
		wantAmong(t, list(0, 16), over(over(list(0, 7)), idle), over(list(0, 7)))
		wantAmong(t, list(0, 16), over(over(list(0, 7)), idle, idle), over(list(0, 7)))
		wantAmong(t, list(0, 16), over(over(list(0, 7)), idle, "c7"), over(over(list(0, 7)), "c7"))
	}
}

// wantAmong wants a Bool over such names to become another one.
func wantAmong(t *testing.T, names, from, to string) {
	t.Helper()
	text := ""
	for _, name := range strings.Fields(names) {
		text += "(decl " + name + " () bool)\n"
	}
	want := text
	if to != "true" {
		want += "(hold " + to + ")\n"
	}
	if got := whole(t, text+"(hold "+from+")"); got != want {
		t.Errorf("%s: got %s, want %s", from, strings.TrimPrefix(got, text), to)
	}
}

// R8.2: sums and other operators do not take in children of their own.
func TestNested(t *testing.T) {
	for _, e := range []string{"(most (add (add i j) i) 5)", "(wless (wand (wand v w) v) w)", "(most (times 2 (times 2 i)) 5)"} {
		if got, want := rewritten(t, "(hold "+e+")"), "(hold "+e+")\n"; got != want {
			t.Errorf("%s: got %s", e, got)
		}
	}
}

// R8.2: children become equal, so that further rules apply; the nodes that they replace are one.
func TestBecomeEqual(t *testing.T) {
	wantNodes(t, api.Ask{
		Decls: []api.Decl{{Name: "i", Sort: api.SortInt}},
		Nodes: []api.Node{named("i"), named("i"), number(api.OpNum, 0, 1), node(api.OpAdd, 1, 2), node(api.OpLess, 0, 3), node(api.OpMost, 0, 3),
			number(api.OpTimes, 2, 1, 3), number(api.OpTimes, 2, 1, 0), node(api.OpAdd, 6, 7), node(api.OpMost, 8, 2)},
		Hold: []int{5, 9},
	}, []api.Node{named("i"), number(api.OpNum, 0, 1), number(api.OpTimes, 2, 1, 0), node(api.OpAdd, 2, 2), node(api.OpMost, 3, 1)}, 4)
	if got := slices.Collect(strings.Lines(rewritten(t, "(hold (not (same (add i 1) (add i 1 0)))) (hold p)"))); len(got) != 1 || got[0] != "(hold false)\n" {
		t.Errorf("got %v", got)
	}
}
