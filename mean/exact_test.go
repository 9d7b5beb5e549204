package mean_test

import (
	"math/big"
	"math/rand"
	"slices"
	"strconv"
	"testing"

	"umpirage/api"
	"umpirage/ask"
	"umpirage/mean"
)

// These tests compare package mean with a second implementation: every value other than an array is a number of math/big,
// an array is a list of what it has at every thing, and a meaning is a function of the arguments as text.

// thing is a value of the second implementation.
type thing struct {
	num   *big.Rat
	array []int // at each thing, and elsewhere, which is past the last one
}

func numeric(n int64) thing { return thing{num: new(big.Rat).SetInt64(n)} }

func truth(b bool) thing {
	if b {
		return numeric(1)
	}
	return numeric(0)
}

func (v thing) int() int64 { return v.num.Num().Int64() }

func (v thing) isTrue() bool { return v.int() == 1 }

// value is v in the form of R5.1, and whether it is representable.
func (v thing) value() (api.Value, bool) {
	if v.array != nil {
		out := api.Value{Rest: v.array[things+1]}
		for at, it := range v.array[:things+1] {
			if it != out.Rest {
				out.Cells = append(out.Cells, api.Cell{At: at, It: it})
			}
		}
		return out, true
	}
	limit := big.NewInt(top)
	if v.num.Num().CmpAbs(limit) > 0 || v.num.Denom().Cmp(limit) > 0 {
		return api.Value{}, false
	}
	return num(int(v.num.Num().Int64()), int(v.num.Denom().Int64())), true
}

// read is a value of a sort, and whether it is one; it is one if it comes out as it went in.
func read(sort int, v api.Value) (thing, bool) {
	var out thing
	if sort == api.SortArray {
		out.array = slices.Repeat([]int{v.Rest}, things+2)
		for _, c := range v.Cells {
			if c.At < 0 || c.At > things {
				return thing{}, false
			}
			out.array[c.At] = c.It
		}
		if slices.Max(out.array) > things || slices.Min(out.array) < 0 {
			return thing{}, false
		}
	} else {
		if v.Num.Den == 0 {
			return thing{}, false
		}
		out.num = big.NewRat(int64(v.Num.Num), int64(v.Num.Den))
		low, high := big.NewRat(-top, 1), big.NewRat(top, 1)
		if sort != api.SortInt && sort != api.SortReal {
			low, high = big.NewRat(0, 1), big.NewRat(map[int]int64{1: 1, 4: 1000, 11: 1, 12: 3, 13: 7, 14: 15, 15: 31, 16: 63, 17: 127, 18: 255}[sort], 1)
		}
		if out.num.Cmp(low) < 0 || out.num.Cmp(high) > 0 || sort != api.SortReal && !out.num.IsInt() {
			return thing{}, false
		}
	}
	back, fits := out.value()
	return out, fits && equal(back, v)
}

// function is what a meaning maps lists of arguments to.
type function struct {
	rows map[string]thing
	rest thing
}

func key(args []int) string {
	text := ""
	for _, n := range args {
		text += strconv.Itoa(n) + " "
	}
	return text
}

// readMeaning is a meaning, or the code of what is wrong with it: the one that comes first in the chapter.
func readMeaning(d api.Decl, m api.Meaning) (function, int) {
	out := function{rows: map[string]thing{}}
	wrong := map[int]bool{api.ErrSize: len(m.Rows) > things}
	var good bool
	out.rest, good = read(d.Sort, m.Rest)
	wrong[api.ErrSort] = !good
	for _, r := range m.Rows {
		for _, n := range r.Args {
			wrong[api.ErrRange] = wrong[api.ErrRange] || n < 0 || n > things
		}
		_, known := out.rows[key(r.Args)]
		wrong[api.ErrTwice] = wrong[api.ErrTwice] || known
		wrong[api.ErrSize] = wrong[api.ErrSize] || len(r.Args) != len(d.Args)
		out.rows[key(r.Args)], good = read(d.Sort, r.To)
		wrong[api.ErrSort] = wrong[api.ErrSort] || !good
	}
	for _, code := range []int{api.ErrSize, api.ErrRange, api.ErrTwice, api.ErrSort} {
		if wrong[code] {
			return function{}, code
		}
	}
	return out, api.OK
}

// modulo is n modulo 2 to the power of bits.
func modulo(n *big.Int, bits int) thing {
	return thing{num: new(big.Rat).SetInt(n.Mod(n, big.NewInt(1<<bits)))}
}

func onWords(op, by, bits int, kids []thing) (thing, bool) {
	l, r := kids[0].num.Num(), kids[len(kids)-1].num.Num()
	out := new(big.Int)
	switch op {
	case api.OpWNot:
		out.Not(l)
	case api.OpWAnd:
		out.And(l, r)
	case api.OpWOr:
		out.Or(l, r)
	case api.OpWXor:
		out.Xor(l, r)
	case api.OpWAdd:
		out.Add(l, r)
	case api.OpWTimes:
		out.Mul(l, r)
	case api.OpWLeft:
		out.Lsh(l, uint(by))
	default:
		return thing{}, false
	}
	return modulo(out, bits), true
}

// exactNode is the value of a node, and whether it, and all its partial sums, are representable.
func exactNode(n api.Node, sort int, kids []thing, functions map[string]function) (thing, bool) {
	switch n.Op {
	case api.OpTrue, api.OpAnd:
		return truth(!slices.ContainsFunc(kids, func(k thing) bool { return !k.isTrue() })), true
	case api.OpFalse, api.OpOr:
		return truth(slices.ContainsFunc(kids, thing.isTrue)), true
	case api.OpNot:
		return truth(!kids[0].isTrue()), true
	case api.OpPick:
		return kids[2-kids[0].int()], true
	case api.OpIff, api.OpSame:
		return truth(kids[0].num.Cmp(kids[1].num) == 0), true
	case api.OpLess, api.OpWLess:
		return truth(kids[0].num.Cmp(kids[1].num) < 0), true
	case api.OpMost:
		return truth(kids[0].num.Cmp(kids[1].num) <= 0), true
	case api.OpName:
		var args []int
		for _, k := range kids {
			args = append(args, int(k.int()))
		}
		if v, known := functions[n.Name].rows[key(args)]; known {
			return v, true
		}
		return functions[n.Name].rest, true
	case api.OpWord:
		return numeric(int64(n.N)), true
	case api.OpGet:
		return numeric(int64(kids[0].array[kids[1].int()])), true
	case api.OpPut:
		array := slices.Clone(kids[0].array)
		array[kids[1].int()] = int(kids[2].int())
		return thing{array: array}, true
	}
	if len(kids) > 0 {
		if v, known := onWords(n.Op, n.N, sort-10, kids); known {
			return v, true
		}
	}
	return exactNumber(n, kids)
}

func exactNumber(n api.Node, kids []thing) (thing, bool) {
	out, fits := new(big.Rat), true
	if n.Op != api.OpAdd {
		out = big.NewRat(int64(n.N), int64(n.D))
	}
	for _, k := range kids {
		if n.Op == api.OpTimes {
			out.Mul(out, k.num)
		} else {
			out.Add(out, k.num)
		}
		_, good := thing{num: out}.value()
		fits = fits && good
	}
	return thing{num: out}, fits
}

// exact is what Value is to return for a query that is well formed.
func exact(a api.Ask, w api.World) ([]api.Value, api.Fault) {
	sorts, _ := ask.Sorts(a)
	if len(w.Means) != len(a.Decls) {
		return nil, fault(api.ErrSize, 0)
	}
	functions := map[string]function{}
	for i, d := range a.Decls {
		f, code := readMeaning(d, w.Means[i])
		if code != api.OK {
			return nil, fault(code, i)
		}
		functions[d.Name] = f
	}
	var values []thing
	var out []api.Value
	for i, n := range a.Nodes {
		var kids []thing
		for _, kid := range n.Kids {
			kids = append(kids, values[kid])
		}
		v, fits := exactNode(n, sorts[i], kids, functions)
		value, representable := v.value()
		if !fits || !representable {
			return nil, fault(api.ErrMuch, i)
		}
		values, out = append(values, v), append(out, value)
	}
	return out, fine
}

// randomDecls have at least one constant of each sort.
func randomDecls(r *rand.Rand) []api.Decl {
	var l []api.Decl
	for i, sort := range []int{1, 2, 3, 4, 5, api.SortWord + 1 + r.Intn(8), api.SortWord + 1 + r.Intn(8)} {
		l = append(l, decl("c"+strconv.Itoa(i), sort, 0))
	}
	for i := range 1 + r.Intn(6) {
		sort := []int{1, 2, 3, 4, api.SortWord + 1 + r.Intn(8)}[r.Intn(5)]
		l = append(l, decl("f"+strconv.Itoa(i), sort, r.Intn(4)+r.Intn(2)*r.Intn(6)))
	}
	return l
}

// randomThing is most often one of a few.
func randomThing(r *rand.Rand) int {
	if r.Intn(8) == 0 {
		return r.Intn(things + 1)
	}
	return r.Intn(5)
}

func randomFraction(r *rand.Rand) api.Value {
	limit := []int64{3, 12, 1 << 15, top}[r.Intn(4)]
	f := big.NewRat(r.Int63n(2*limit+1)-limit, 1+r.Int63n(limit))
	return num(int(f.Num().Int64()), int(f.Denom().Int64()))
}

func randomValue(r *rand.Rand, sort int) api.Value {
	switch sort {
	case api.SortBool:
		return whole(r.Intn(2))
	case api.SortInt:
		limit := []int{3, 100, top}[r.Intn(3)]
		return whole(r.Intn(2*limit+1) - limit)
	case api.SortReal:
		return randomFraction(r)
	case api.SortThing:
		return whole(randomThing(r))
	case api.SortArray:
		v := thing{array: slices.Repeat([]int{randomThing(r)}, things+2)}
		for range r.Intn(6) {
			v.array[randomThing(r)] = randomThing(r)
		}
		value, _ := v.value()
		return value
	}
	return whole(r.Intn(1 << (sort - api.SortWord)))
}

func randomWorld(r *rand.Rand, decls []api.Decl) api.World {
	var w api.World
	for _, d := range decls {
		m := constant(randomValue(r, d.Sort))
		seen := map[string]bool{}
		for range r.Intn(10) * r.Intn(2+len(d.Args)) / (1 + len(d.Args)) {
			var args []int
			for range d.Args {
				args = append(args, randomThing(r))
			}
			if !seen[key(args)] {
				seen[key(args)] = true
				m.Rows = append(m.Rows, entry(randomValue(r, d.Sort), args...))
			}
		}
		w.Means = append(w.Means, m)
	}
	return w
}

// randomNode is a node that may not be well formed.
func randomNode(r *rand.Rand, a api.Ask) api.Node {
	n := api.Node{Op: 1 + r.Intn(25)}
	counts := map[int]int{3: 1, 6: 2, 7: 3, 8: 2, 12: 1, 13: 2, 14: 2, 16: 1, 17: 2, 18: 2, 19: 2, 20: 2, 21: 2, 22: 2, 23: 1, 24: 2, 25: 3}
	count := counts[n.Op]
	switch n.Op {
	case api.OpAnd, api.OpOr, api.OpAdd:
		count = r.Intn(5)
	case api.OpName:
		d := a.Decls[r.Intn(len(a.Decls))]
		n.Name, count = d.Name, len(d.Args)
	case api.OpNum, api.OpTimes:
		f := big.NewRat(r.Int63n(19)-9, 1+r.Int63n(4))
		n.N, n.D = int(f.Num().Int64()), int(f.Denom().Int64())
	case api.OpWord:
		n.N, n.D = r.Intn(8), 1+r.Intn(8)
	case api.OpWLeft:
		n.N = r.Intn(9)
	}
	for range count {
		n.Kids = append(n.Kids, r.Intn(len(a.Nodes)+1))
	}
	if n.Op == api.OpGet || n.Op == api.OpPut {
		n.Kids = append([]int{oneOf(r, a, api.SortArray)}, oneOf(r, a, api.SortThing), oneOf(r, a, api.SortThing))[:count]
	}
	return n
}

// oneOf is a node of a sort.
func oneOf(r *rand.Rand, a api.Ask, sort int) int {
	sorts, _ := ask.Sorts(a)
	for {
		if i := r.Intn(len(sorts)); sorts[i] == sort {
			return i
		}
	}
}

// randomAsk is a query without errors.
func randomAsk(r *rand.Rand) api.Ask {
	a := api.Ask{Decls: randomDecls(r)}
	for _, d := range a.Decls {
		if len(d.Args) == 0 {
			a.Nodes = append(a.Nodes, named(d.Name))
		}
	}
	for size := len(a.Nodes) + r.Intn(30); len(a.Nodes) < size; {
		longer := a
		longer.Nodes = append(slices.Clone(a.Nodes), randomNode(r, a))
		if _, not := ask.Sorts(longer); not == fine {
			a = longer
		}
	}
	sorts, _ := ask.Sorts(a)
	for i, sort := range sorts {
		if sort == api.SortBool && r.Intn(4) == 0 {
			a.Hold = append(a.Hold, i)
		}
	}
	return a
}

// spoil changes something in a world at random, often so that it is still an interpretation.
func spoil(r *rand.Rand, w *api.World) {
	m := &w.Means[r.Intn(len(w.Means))]
	for range r.Intn(10) {
		if len(m.Rows) == 0 {
			m = &w.Means[r.Intn(len(w.Means))]
		}
	}
	v := &m.Rest
	if len(m.Rows) > 0 && r.Intn(2) == 0 {
		row := &m.Rows[r.Intn(len(m.Rows))]
		v = &row.To
		switch r.Intn(8) {
		case 0:
			m.Rows = append(m.Rows, entry(row.To, row.Args...))
		case 1:
			row.Args = append(slices.Clone(row.Args), 3)[r.Intn(2):]
		case 2, 3, 4, 5:
			row.Args = slices.Clone(row.Args)
			if len(row.Args) > 0 {
				row.Args[r.Intn(len(row.Args))] = []int{-1, 0, things, things + 1}[r.Intn(4)]
			}
		}
	}
	switch r.Intn(8) {
	case 0:
		v.Num.Num = []int{-1, 0, 1, 2, 3, 4, 255, 256, things, things + 1, top, top + 1}[r.Intn(12)]
	case 1:
		v.Num.Den = r.Intn(4) - 1
	case 2:
		v.Rest = []int{-1, 0, 1, 2, 3, things, things + 1}[r.Intn(7)]
	case 3:
		v.Cells = append(v.Cells, api.Cell{At: []int{0, 3, things, things + 1}[r.Intn(4)], It: []int{-1, 0, 3, things, things + 1}[r.Intn(5)]})
	case 4:
		w.Means = slices.Clone(w.Means)[:len(w.Means)-r.Intn(2)]
	}
}

// TestRandom: R5.1 to R5.4: random queries, with worlds of few errors.
func TestRandom(t *testing.T) {
	r := rand.New(rand.NewSource(5))
	seen := map[int]int{}
	operators := map[int]int{}
	holds := 0
	for range 6000 {
		a := randomAsk(r)
		w := randomWorld(r, a.Decls)
		for range r.Intn(3) * r.Intn(2) {
			spoil(r, &w)
		}
		want, not := exact(a, w)
		got := run(t, "a random query", a, w, not)
		if !slices.EqualFunc(got, want, equal) {
			t.Fatalf("%v in %v: got %v, want %v", a, w, got, want)
		}
		seen[not.Code]++
		if not == fine {
			for _, n := range a.Nodes {
				operators[n.Op]++
			}
		}
		if yes, _ := mean.Holds(a, w); yes && len(a.Hold) > 0 {
			holds++
		}
	}
	for _, code := range []int{api.OK, api.ErrSize, api.ErrRange, api.ErrTwice, api.ErrSort, api.ErrMuch} {
		if seen[code] < 50 {
			t.Errorf("only %d worlds with the code %d", seen[code], code)
		}
	}
	for op := api.OpTrue; op <= api.OpPut; op++ {
		if operators[op] < 100 {
			t.Errorf("only %d nodes with the operator %d", operators[op], op)
		}
	}
	if holds < 50 {
		t.Errorf("only %d queries that hold", holds)
	}
}
