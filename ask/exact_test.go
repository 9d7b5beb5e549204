package ask_test

import (
	"math/big"
	"math/rand"
	"regexp"
	"slices"
	"strings"
	"testing"

	"umpirage/api"
	"umpirage/ask"
)

// These tests compare package ask with a second implementation: what an operator allows is a pattern over letters,
// one for the sort of each child: b i r t a, and a digit for the width of a bit vector.

const (
	reals = `[ir]`
	twins = `11|22|33|44|55|66|77|88`

	first  = "first"
	second = "second"
)

// allowed has for each operator the children that it allows, and the sort that it has then:
// a letter, or first or second: the sort of that child; what stands ahead comes first.
var allowed = map[int][][2]string{
	api.OpTrue:   {{``, "b"}},
	api.OpFalse:  {{``, "b"}},
	api.OpNot:    {{`b`, "b"}},
	api.OpAnd:    {{`b{0,8}`, "b"}},
	api.OpOr:     {{`b{0,8}`, "b"}},
	api.OpIff:    {{`bb`, "b"}},
	api.OpPick:   {{`b(bb|ii|rr|tt|` + twins + `)`, second}},
	api.OpSame:   {{reals + reals + `|tt|` + twins, "b"}},
	api.OpAdd:    {{`i{0,8}`, "i"}, {reals + `{0,8}`, "r"}},
	api.OpLess:   {{reals + reals, "b"}},
	api.OpMost:   {{reals + reals, "b"}},
	api.OpWNot:   {{`[1-8]`, first}},
	api.OpWAnd:   {{twins, first}},
	api.OpWOr:    {{twins, first}},
	api.OpWXor:   {{twins, first}},
	api.OpWAdd:   {{twins, first}},
	api.OpWTimes: {{twins, first}},
	api.OpWLess:  {{twins, "b"}},
	api.OpWLeft:  {{`[1-8]`, first}},
	api.OpGet:    {{`at`, "t"}},
	api.OpPut:    {{`att`, "a"}},
}

// patterns keeps what was compiled, and counted what was counted.
var (
	patterns = map[string]*regexp.Regexp{}
	counted  = map[[2]int]bool{}
)

func matches(pattern, text string) bool {
	if patterns[pattern] == nil {
		patterns[pattern] = regexp.MustCompile("^(" + pattern + ")$")
	}
	return patterns[pattern].MatchString(text)
}

// rules is what a node allows, when it is in its form.
func rules(n api.Node, d api.Decl) [][2]string {
	switch n.Op {
	case api.OpName:
		return [][2]string{{strings.Repeat("t", len(d.Args)), letter(d.Sort)}}
	case api.OpNum:
		return [][2]string{{``, map[bool]string{true: "i", false: "r"}[n.D == 1]}}
	case api.OpTimes:
		if n.D == 1 {
			return [][2]string{{`i`, "i"}, {`r`, "r"}}
		}
		return [][2]string{{reals, "r"}}
	case api.OpWord:
		return [][2]string{{``, letter(api.SortWord + n.D)}}
	}
	return allowed[n.Op]
}

func letter(sort int) string {
	if sort > 10 {
		return string(rune('0' + sort - 10))
	}
	return "birta"[sort-1 : sort]
}

func sortOfLetter(l byte) int {
	if i := strings.IndexByte("birta", l); i >= 0 {
		return i + 1
	}
	return int(l-'0') + 10
}

// result is the letter of a node's sort; children has their letters.
func result(rules [][2]string, children string) (byte, bool) {
	for _, r := range rules {
		if matches(r[0], children) {
			switch r[1] {
			case first:
				return children[0], true
			case second:
				return children[1], true
			}
			return r[1][0], true
		}
	}
	return 0, false
}

// counts tells whether some children of that number are allowed.
func counts(op, n int, d api.Decl) bool {
	switch op {
	case api.OpName:
		return n == len(d.Args)
	case api.OpNum, api.OpWord:
		return n == 0
	case api.OpTimes:
		return n == 1
	}
	if _, known := counted[[2]int{op, n}]; !known {
		counted[[2]int{op, n}] = matchesSome(op, n)
	}
	return counted[[2]int{op, n}]
}

func matchesSome(op, n int) bool {
	for _, r := range allowed[op] {
		for _, l := range "birta1" {
			for _, head := range []string{string(l), "b", "a"} {
				if n == 0 && matches(r[0], "") || n > 0 && matches(r[0], head+strings.Repeat(string(l), n-1)) {
					return true
				}
			}
		}
	}
	return false
}

func exactNode(a api.Ask, letters string, at int) (byte, int) {
	n, d := a.Nodes[at], api.Decl{}
	named := n.Op == api.OpName
	if _, known := allowed[n.Op]; !known && !slices.Contains([]int{9, 10, 12, 15}, n.Op) {
		return 0, api.ErrKind
	}
	if named {
		found := false
		for _, other := range a.Decls {
			if other.Name == n.Name {
				d, found = other, true
			}
		}
		if !found {
			return 0, api.ErrNone
		}
	}
	if !counts(n.Op, len(n.Kids), d) {
		return 0, api.ErrSize
	}
	children := ""
	for _, kid := range n.Kids {
		if kid < 0 || kid >= at {
			return 0, api.ErrRange
		}
		children += letters[kid : kid+1]
	}
	if !named && n.Name != "" || n.N != 0 && !slices.Contains([]int{10, 12, 15, 23}, n.Op) ||
		n.D != 0 && !slices.Contains([]int{10, 12, 15}, n.Op) {
		return 0, api.ErrForm
	}
	if !exactNumbers(n) {
		return 0, api.ErrRange
	}
	to, good := result(rules(n, d), children)
	if !good {
		return 0, api.ErrSort
	}
	return to, 0
}

func exactNumbers(n api.Node) bool {
	switch n.Op {
	case api.OpNum, api.OpTimes:
		if n.D < 1 || n.D > 1000000 || n.N < -1000000 || n.N > 1000000 {
			return false
		}
		f := big.NewRat(int64(n.N), int64(n.D))
		return f.Num().Int64() == int64(n.N) && f.Denom().Int64() == int64(n.D)
	case api.OpWord:
		return n.D >= 1 && n.D <= 8 && n.N >= 0 && n.N <= []int{0, 1, 3, 7, 15, 31, 63, 127, 255}[n.D]
	case api.OpWLeft:
		return n.N >= 0 && n.N <= 8
	}
	return true
}

var names = regexp.MustCompile(`^[A-Za-z_][A-Za-z_0-9]{0,11}$`)

func exactDecl(decls []api.Decl, at int) int {
	d := decls[at]
	twice := slices.ContainsFunc(decls[:at], func(o api.Decl) bool { return o.Name == d.Name })
	sorts := []int{1, 2, 3, 4, 5, 11, 12, 13, 14, 15, 16, 17, 18}
	things := !slices.ContainsFunc(d.Args, func(s int) bool { return s != 4 })
	switch {
	case !names.MatchString(d.Name):
		return api.ErrName
	case twice:
		return api.ErrTwice
	case len(d.Args) > 8:
		return api.ErrSize
	case !slices.Contains(sorts, d.Sort) || !things || d.Sort == 5 && len(d.Args) > 0:
		return api.ErrKind
	}
	return 0
}

// exact is what Sorts and Used are to return for a query within the limits of its lists.
func exact(a api.Ask) ([]int, []bool, api.Fault) {
	for i := range a.Decls {
		if code := exactDecl(a.Decls, i); code != 0 {
			return nil, nil, fault(code, i)
		}
	}
	letters := ""
	var sorts []int
	for i := range a.Nodes {
		l, code := exactNode(a, letters, i)
		if code != 0 {
			return nil, nil, fault(code, i)
		}
		letters += string(rune(l))
		sorts = append(sorts, sortOfLetter(l))
	}
	used := make([]bool, len(a.Nodes))
	for i, n := range a.Hold {
		if n < 0 || n >= len(a.Nodes) {
			return nil, nil, fault(api.ErrRange, i)
		}
		if letters[n] != 'b' {
			return nil, nil, fault(api.ErrSort, i)
		}
		mark(a, used, n)
	}
	return sorts, used, fine
}

func mark(a api.Ask, used []bool, n int) {
	if !used[n] {
		used[n] = true
		for _, kid := range a.Nodes[n].Kids {
			mark(a, used, kid)
		}
	}
}

func compare(t *testing.T, a api.Ask) api.Fault {
	t.Helper()
	sorts, used, want := exact(a)
	if got := ask.Check(a); got != want {
		t.Fatalf("Check(%v) = %v, want %v", a, got, want)
	}
	if got, not := ask.Sorts(a); !slices.Equal(got, sorts) || not != want {
		t.Fatalf("Sorts(%v) = %v %v, want %v %v", a, got, not, sorts, want)
	}
	if got, not := ask.Used(a); !slices.Equal(got, used) || not != want {
		t.Fatalf("Used(%v) = %v %v, want %v %v", a, got, not, used, want)
	}
	return want
}

// TestEverySort: R4.2: every operator with up to three children of all sorts, and with more of a few sorts.
func TestEverySort(t *testing.T) {
	tried := map[int]int{}
	for op := -1; op <= 27; op++ {
		for n := 0; n <= 9; n++ {
			for kids := range choices(n, len(leaves)) {
				a := over(node(op, kids...), "")
				last := &a.Nodes[len(leaves)]
				switch op {
				case api.OpName:
					last.Name = []string{"b", "p", "f", "w3", "a", "none"}[tried[0]%6]
				case api.OpNum, api.OpTimes:
					last.N, last.D = 1, 1+tried[0]%2
				case api.OpWord:
					last.N, last.D = 1, 1+tried[0]%8
				}
				tried[0]++
				tried[compare(t, a).Code+100]++
			}
		}
	}
	for _, code := range []int{api.OK, api.ErrKind, api.ErrNone, api.ErrSize, api.ErrSort} {
		if tried[code+100] < 100 {
			t.Errorf("only %d queries with the code %d", tried[code+100], code)
		}
	}
}

// choices are all lists of n numbers below limit, if n is at most 3, and else some of those with at most one of another kind.
func choices(n, limit int) func(yield func([]int) bool) {
	return func(yield func([]int) bool) {
		if n > 3 {
			for i := 0; i < limit*limit*n; i += 5 {
				l := slices.Repeat([]int{i % limit}, n)
				l[i/limit/limit] = i / limit % limit
				if !yield(l) {
					return
				}
			}
			return
		}
		total := 1
		for range n {
			total *= limit
		}
		for i := range total {
			l := make([]int, n)
			for k := range l {
				l[k] = i % limit
				i /= limit
			}
			if !yield(l) {
				return
			}
		}
	}
}

// TestRandom: R4.2 to R4.5: random queries, most of them with few errors.
func TestRandom(t *testing.T) {
	r := rand.New(rand.NewSource(4))
	seen := map[int]int{}
	for range 20000 {
		a := randomAsk(r)
		for range r.Intn(3) {
			spoil(r, &a)
		}
		seen[compare(t, a).Code]++
	}
	for _, code := range []int{api.OK, api.ErrRange, api.ErrKind, api.ErrForm, api.ErrNone, api.ErrTwice, api.ErrSort, api.ErrSize, api.ErrName} {
		if seen[code] < 100 {
			t.Errorf("only %d queries with the code %d", seen[code], code)
		}
	}
}

// randomAsk is a query without errors.
func randomAsk(r *rand.Rand) api.Ask {
	a := api.Ask{Decls: slices.Clone(all)}
	letters := ""
	for size := r.Intn(30); len(a.Nodes) < size; {
		n := api.Node{Op: 1 + r.Intn(25)}
		switch n.Op {
		case api.OpName:
			d := all[r.Intn(len(all))]
			n.Name = d.Name
			for range d.Args {
				n.Kids = append(n.Kids, r.Intn(len(a.Nodes)+1))
			}
		case api.OpNum, api.OpTimes:
			n.N, n.D = r.Intn(9)-4, 1+r.Intn(3)
		case api.OpWord:
			n.N, n.D = r.Intn(8), 1+r.Intn(8)
		case api.OpWLeft:
			n.N = r.Intn(9)
		}
		for n.Op != api.OpName && !counts(n.Op, len(n.Kids), api.Decl{}) || r.Intn(3) == 0 && counts(n.Op, len(n.Kids)+1, api.Decl{}) {
			n.Kids = append(n.Kids, r.Intn(len(a.Nodes)+1))
		}
		trial := api.Ask{Decls: a.Decls, Nodes: append(slices.Clone(a.Nodes), n)}
		if l, code := exactNode(trial, letters, len(a.Nodes)); code == 0 {
			a.Nodes = trial.Nodes
			letters += string(rune(l))
		}
	}
	for i := range letters {
		if letters[i] == 'b' && r.Intn(3) == 0 {
			a.Hold = append(a.Hold, i)
		}
	}
	return a
}

// spoil changes something at random.
func spoil(r *rand.Rand, a *api.Ask) {
	if len(a.Nodes) == 0 || r.Intn(4) == 0 {
		d := &a.Decls[r.Intn(len(a.Decls))]
		switch r.Intn(3) {
		case 0:
			d.Name = []string{"b", "1", "x", "", "abcdefghijklm"}[r.Intn(5)]
		case 1:
			d.Sort = r.Intn(20)
		case 2:
			d.Args = slices.Repeat([]int{4 - r.Intn(10)/9}, r.Intn(10))
		}
		return
	}
	n := &a.Nodes[r.Intn(len(a.Nodes))]
	switch r.Intn(7) {
	case 0:
		n.Op = r.Intn(28)
	case 1:
		n.Kids = append(slices.Clone(n.Kids), r.Intn(len(a.Nodes)))
	case 2:
		n.Kids = slices.Clone(n.Kids)
		if len(n.Kids) > 0 {
			n.Kids[r.Intn(len(n.Kids))] = r.Intn(len(a.Nodes)+2) - 1
		}
	case 3:
		n.N = r.Intn(300) - 10
	case 4:
		n.D = r.Intn(12) - 1
	case 5:
		n.Name = []string{"b", "f", "p", "none", ""}[r.Intn(5)]
	case 6:
		a.Hold = append(a.Hold, r.Intn(len(a.Nodes)+2)-1)
	}
}
