package read_test

import (
	"math/rand"
	"regexp"
	"slices"
	"strconv"
	"strings"
	"testing"

	"umpirage/api"
	"umpirage/ask"
	"umpirage/mean"
	"umpirage/read"
	"umpirage/sexp"
)

// These tests compare package read with a second implementation: it takes the text of each expression apart with patterns,
// and knows nodes by their texts.

var (
	aNumber  = regexp.MustCompile(`^(0|-?[1-9][0-9]{0,6})(?:/([2-9]|[1-9][0-9]{1,6}))?$`)
	aWord    = regexp.MustCompile(`^b([01]+)$`)
	aDecl    = regexp.MustCompile(`^\(decl ([^() ]+) \(((?:thing(?: thing)*)?)\) ([^() ]+)\)\n$`)
	aSort    = regexp.MustCompile(`^(bool|int|real|thing|array|word[1-8])$`)
	anAssert = regexp.MustCompile(`^\(hold (.+)\)\n$`)
	operated = regexp.MustCompile(`^\((not|and|or|iff|pick|same|add|less|most|wnot|wand|wor|wxor|wadd|wtimes|wless|get|put)((?: .+)?)\)$`)
	counted  = regexp.MustCompile(`^\((times|wleft) ([^() ]+)((?: .+)?)\)$`)
	called   = regexp.MustCompile(`^\(([^() ]+)( .+)\)$`)
)

// codes are the operators in the order of operatorWords.
var codes = []int{1, 2, 3, 4, 5, 6, 7, 8, 11, 12, 13, 14, 16, 17, 18, 19, 20, 21, 22, 23, 24, 25}

func codeOf(word string) int { return codes[slices.Index(operatorWords, word)] }

// exactReader has the numbers of the nodes by their texts.
type exactReader struct {
	a     api.Ask
	known map[string]int
}

func exactAsk(text string) (api.Ask, api.Fault) {
	l, not := sexp.Parse(text)
	if not != fine {
		return api.Ask{}, not
	}
	r := exactReader{known: map[string]int{}}
	for i, e := range l {
		line, _ := sexp.Text([]api.Sexp{e})
		if code := r.top(line); code != 0 {
			return api.Ask{}, fault(code, i)
		}
	}
	if not := ask.Check(r.a); not != fine {
		return api.Ask{}, not
	}
	return r.a, fine
}

func (r *exactReader) top(line string) int {
	if parts := aDecl.FindStringSubmatch(line); parts != nil && len(r.a.Hold) == 0 {
		sort := strings.TrimPrefix(parts[3], "word")
		switch name := parts[1]; {
		case !aSort.MatchString(parts[3]):
			return api.ErrKind
		case slices.Contains(operatorWords, name) || aNumber.MatchString(name) || aWord.MatchString(name):
			return api.ErrName
		}
		d := api.Decl{Name: parts[1], Sort: slices.Index([]string{"", "bool", "int", "real", "thing", "array"}, sort)}
		if d.Sort < 0 {
			d.Sort = 10 + int(sort[0]-'0')
		}
		d.Args = slices.Repeat([]int{api.SortThing}, len(strings.Fields(parts[2])))
		r.a.Decls = append(r.a.Decls, d)
		return 0
	}
	parts := anAssert.FindStringSubmatch(line)
	if parts == nil || len(split(parts[1])) != 1 {
		return api.ErrText
	}
	n := r.expression(parts[1])
	if n < 0 {
		return api.ErrText
	}
	r.a.Hold = append(r.a.Hold, n)
	return 0
}

// split is the expressions of which a text consists, where single spaces part them.
func split(text string) []string {
	var l []string
	depth, from := 0, 0
	for i := range len(text) + 1 {
		switch {
		case i == len(text) || text[i] == ' ' && depth == 0:
			if i > from {
				l = append(l, text[from:i])
			}
			from = i + 1
		case text[i] == '(':
			depth++
		case text[i] == ')':
			depth--
		}
	}
	return l
}

// expression is the number of the node of an expression, or -1.
func (r *exactReader) expression(text string) int {
	n, kids := api.Node{}, ""
	name, behind := text, ""
	if parts := called.FindStringSubmatch(text); parts != nil {
		name, behind = parts[1], parts[2]
	}
	if slices.ContainsFunc(r.a.Decls, func(d api.Decl) bool { return d.Name == name }) {
		n, kids = named(name), behind
	} else if parts := aNumber.FindStringSubmatch(text); parts != nil {
		n.Op = api.OpNum
		n.N, n.D = fractionOf(parts[1], parts[2])
	} else if parts := aWord.FindStringSubmatch(text); parts != nil {
		value, _ := strconv.ParseInt(parts[1], 2, 64)
		n = number(api.OpWord, int(value), len(parts[1]))
	} else if text == "true" || text == "false" {
		n.Op = codeOf(text)
	} else if parts := operated.FindStringSubmatch(text); parts != nil {
		n.Op, kids = codeOf(parts[1]), parts[2]
	} else if parts := counted.FindStringSubmatch(text); parts != nil && aNumber.MatchString(parts[2]) {
		of := aNumber.FindStringSubmatch(parts[2])
		n.Op, kids = codeOf(parts[1]), parts[3]
		n.N, n.D = fractionOf(of[1], of[2])
		if parts[1] == "wleft" {
			n.D = 0
			if of[2] != "" {
				return -1
			}
		}
	} else {
		return -1
	}
	for _, kid := range split(kids) {
		k := r.expression(kid)
		if k < 0 {
			return -1
		}
		n.Kids = append(n.Kids, k)
	}
	if _, known := r.known[text]; !known {
		r.known[text] = len(r.a.Nodes)
		r.a.Nodes = append(r.a.Nodes, n)
	}
	return r.known[text]
}

func fractionOf(above, below string) (int, int) {
	n, _ := strconv.Atoi(above)
	d, _ := strconv.Atoi("0" + below)
	return n, max(d, 1)
}

// exactText writes a node out, but no deeper than there can be, and little more than there can be.
func exactText(a api.Ask, n, depth int) (string, bool) {
	node := a.Nodes[n]
	words := []string{}
	switch node.Op {
	case api.OpName:
		words = append(words, node.Name)
	case api.OpNum:
		words = append(words, fractionText(node))
	case api.OpWord:
		digits := strconv.FormatInt(int64(node.N)+1<<node.D, 2)
		words = append(words, "b"+digits[1:])
	case api.OpTimes, api.OpWLeft:
		words = append(words, operatorWords[slices.Index(codes, node.Op)], fractionText(node))
	default:
		words = append(words, operatorWords[slices.Index(codes, node.Op)])
	}
	if slices.Contains([]int{api.OpTrue, api.OpFalse, api.OpNum, api.OpWord}, node.Op) || node.Op == api.OpName && len(node.Kids) == 0 {
		return words[0], depth <= api.MaxNest
	}
	length := 0
	for _, kid := range node.Kids {
		text, good := exactText(a, kid, depth+1)
		length += len(text)
		if !good || length > api.MaxText {
			return "", false
		}
		words = append(words, text)
	}
	return "(" + strings.Join(words, " ") + ")", depth < api.MaxNest
}

func fractionText(n api.Node) string {
	if n.D < 2 {
		return strconv.Itoa(n.N)
	}
	return strconv.Itoa(n.N) + "/" + strconv.Itoa(n.D)
}

func exactTextOf(a api.Ask) (string, api.Fault) {
	if not := ask.Check(a); not != fine {
		return "", not
	}
	text := ""
	for i, d := range a.Decls {
		if slices.Contains(operatorWords, d.Name) || aWord.MatchString(d.Name) {
			return "", fault(api.ErrName, i)
		}
		sorts := map[int]string{1: "bool", 2: "int", 3: "real", 4: "thing", 5: "array"}
		sort := sorts[d.Sort]
		if sort == "" {
			sort = "word" + strconv.Itoa(d.Sort-10)
		}
		text += "(decl " + d.Name + " (" + strings.TrimSpace(strings.Repeat("thing ", len(d.Args))) + ") " + sort + ")\n"
	}
	for _, n := range a.Hold {
		e, good := exactText(a, n, 1)
		text += "(hold " + e + ")\n"
		if !good || len(text) > api.MaxText {
			return "", fault(api.ErrMuch, 0)
		}
	}
	return text, fine
}

// someNames has names of all sorts with few arguments.
var someNames = []api.Decl{
	decl("p", api.SortBool, 0), decl("b", api.SortBool, 1), decl("hold", api.SortBool, 2),
	decl("i", api.SortInt, 0), decl("decl", api.SortInt, 1),
	decl("r", api.SortReal, 0), decl("bool", api.SortReal, 2),
	decl("t", api.SortThing, 0), decl("u", api.SortThing, 0), decl("thing", api.SortThing, 1),
	decl("a", api.SortArray, 0), decl("word8", api.SortArray, 0),
	decl("v", api.SortWord+1, 0), decl("w", api.SortWord+3, 0), decl("x", api.SortWord+3, 1), decl("y", api.SortWord+8, 0),
}

func randomNode(r *rand.Rand, size int) api.Node {
	n := api.Node{Op: 1 + r.Intn(25)}
	kids := r.Intn(4)
	switch n.Op {
	case api.OpName:
		d := someNames[r.Intn(len(someNames))]
		n.Name, kids = d.Name, len(d.Args)
	case api.OpNum, api.OpTimes:
		n.N, n.D = r.Intn(2*9+1)-9, 1+r.Intn(4)
		if r.Intn(10) == 0 {
			n.N, n.D = r.Intn(2*api.MaxWhole+1)-api.MaxWhole, 1+r.Intn(api.MaxWhole)
		}
		kids = n.Op / api.OpTimes
	case api.OpWord:
		n.D, kids = 1+r.Intn(api.MaxBits), 0
		n.N = r.Intn(1 << n.D)
	case api.OpWLeft:
		n.N, kids = r.Intn(9), 1
	}
	for range kids {
		n.Kids = append(n.Kids, r.Intn(max(size, 1)))
	}
	return n
}

// randomAsk is a query without errors; it may have equal nodes, and some that are not used.
func randomAsk(r *rand.Rand) api.Ask {
	a := api.Ask{Decls: slices.Clone(someNames)}
	r.Shuffle(len(a.Decls), func(i, j int) { a.Decls[i], a.Decls[j] = a.Decls[j], a.Decls[i] })
	for _, d := range someNames {
		if len(d.Args) == 0 && r.Intn(3) > 0 {
			a.Nodes = append(a.Nodes, named(d.Name))
		}
	}
	for range r.Intn(200) {
		trial := api.Ask{Decls: a.Decls, Nodes: append(slices.Clone(a.Nodes), randomNode(r, len(a.Nodes)))}
		if ask.Check(trial) == fine {
			a.Nodes = trial.Nodes
		}
	}
	sorts, _ := ask.Sorts(a)
	for i, sort := range sorts {
		if sort == api.SortBool && r.Intn(8) == 0 {
			a.Hold = append(a.Hold, i)
		}
	}
	r.Shuffle(len(a.Hold), func(i, j int) { a.Hold[i], a.Hold[j] = a.Hold[j], a.Hold[i] })
	return a
}

var spoilers = []string{
	"(", ")", "( )", ";", "\x00", "p", "t", "i", "w", "true", "false", "not", "and", "or", "iff", "pick", "same", "add", "times", "times 2", "less", "wleft", "wleft 1",
	"get", "put", "b1", "b", "b000000000", "0", "-0", "1", "-1", "3/2", "2/4", "3/1", "1/0", "007", "12345678", "1234567", "9", "hold", "decl", "thing", "bool", "word9", "none",
	"(hold p)", "(hold", "(decl p () bool)", "(decl z () bool)", "(decl and () bool)", "(decl 5 () int)", "(decl z () foo)", "(decl z (bool) bool)", "(foo)",
}

func tokensOf(text string) []string {
	return strings.Fields(strings.NewReplacer("(", " ( ", ")", " ) ").Replace(text))
}

// alike has words that can stand in each other's place without an error of the form.
var alike = [][]string{
	{"p", "i", "r", "t", "u", "a", "word8", "v", "w", "y", "true", "0", "-5", "2/3", "3/6", "0/5", "1000001", "b0", "b101", "b00000000", "b000000000"},
	{"not", "and", "or", "iff", "pick", "same", "add", "less", "most", "wnot", "wand", "wxor", "wtimes", "wless", "get", "put", "b", "hold", "decl", "bool", "thing", "x"},
	{"times", "wleft"},
}

// spoiled is a text in which some parts are replaced, dropped, doubled or put in, mostly behind the declarations.
func spoiled(r *rand.Rand, text string) string {
	ahead, _, _ := strings.Cut(text, "\n(hold")
	tokens, from := tokensOf(text), len(tokensOf(ahead))
	for range r.Intn(3) {
		at, put := r.Intn(len(tokens)), spoilers[r.Intn(len(spoilers))]
		if r.Intn(6) > 0 && from < len(tokens) {
			at = from + r.Intn(len(tokens)-from)
		}
		isWord := func(at int) bool { return tokens[at] != "(" && tokens[at] != ")" }
		switch r.Intn(10) {
		case 0:
			tokens[at] = put
		case 1:
			tokens = slices.Insert(tokens, at, put)
		case 2:
			tokens = slices.Delete(tokens, at, at+1)
		case 3:
			tokens = slices.Insert(tokens, at, tokens[at])
		case 4:
			if isWord(at) {
				tokens = slices.Insert(tokens, at, tokens[at])
			}
		default:
			for _, l := range alike {
				if slices.Contains(l, tokens[at]) {
					tokens[at] = l[r.Intn(len(l))]
					break
				}
			}
		}
	}
	return strings.Join(tokens, " ")
}

func compareAsk(t *testing.T, text string) api.Fault {
	t.Helper()
	want, wantNot := exactAsk(text)
	got, not := read.Ask(text)
	if !equal(got, want) || not != wantNot {
		t.Fatalf("Ask(%q) = %v %v, want %v %v", text, got, not, want, wantNot)
	}
	if not == fine {
		compareText(t, got)
	}
	return not
}

func compareText(t *testing.T, a api.Ask) (string, api.Fault) {
	t.Helper()
	want, wantNot := exactTextOf(a)
	got, not := read.Text(a)
	if got != want || not != wantNot {
		t.Fatalf("Text(%v) = %q %v, want %q %v", a, got, not, want, wantNot)
	}
	return got, not
}

// R6.2: random texts, most of them with few errors.
func TestRandomTexts(t *testing.T) {
	r := rand.New(rand.NewSource(6))
	seen := map[int]int{}
	for range 3000 {
		text, not := compareText(t, randomAsk(r))
		if not != fine {
			continue
		}
		for range 8 {
			seen[compareAsk(t, spoiled(r, text)).Code]++
		}
	}
	for _, code := range []int{api.OK, api.ErrText, api.ErrRange, api.ErrKind, api.ErrTwice, api.ErrSort, api.ErrSize, api.ErrName} {
		if seen[code] < 50 {
			t.Errorf("too few texts of a kind: %v", seen)
			break
		}
	}
}

// R6.1 and R6.2: every text of a few words, at the top and as an assertion.
func TestAllShortTexts(t *testing.T) {
	words := []string{"(", ")", "p", "true", "not", "times", "2", "b", "f", "hold", "decl"}
	seen := map[int]int{}
	eachText(words, 5, func(text string) {
		seen[compareAsk(t, text).Code]++
		seen[compareAsk(t, "(decl p () bool) (decl f (thing) bool) (hold "+text+")").Code]++
	})
	if seen[api.OK] < 5 || seen[api.ErrText] < 10000 || seen[api.ErrSize] < 40 {
		t.Errorf("too few texts of a kind: %v", seen)
	}
}

// eachText calls f with every text of at most n of such words.
func eachText(words []string, n int, f func(string)) {
	f("")
	if n > 0 {
		eachText(words, n-1, func(text string) {
			for _, word := range words {
				if len(strings.Fields(text)) == n-1 {
					f(text + " " + word)
				}
			}
		})
	}
}

func randomThing(r *rand.Rand) int { return r.Intn(4) }

func randomValue(r *rand.Rand, sort int) api.Value {
	switch sort {
	case api.SortArray:
		v := api.Value{Rest: randomThing(r)}
		for at := range 4 {
			if it := randomThing(r); it != v.Rest {
				v.Cells = append(v.Cells, api.Cell{At: at, It: it})
			}
		}
		return v
	case api.SortReal:
		return api.Value{Num: api.Frac{Num: 2*r.Intn(9) - 9, Den: 2}}
	case api.SortInt:
		return api.Value{Num: api.Frac{Num: r.Intn(9) - 4, Den: 1}}
	case api.SortThing:
		return api.Value{Num: api.Frac{Num: randomThing(r), Den: 1}}
	}
	return api.Value{Num: api.Frac{Num: r.Intn(1 << max(sort-api.SortWord, 1)), Den: 1}}
}

func randomWorld(r *rand.Rand, decls []api.Decl) api.World {
	var w api.World
	for _, d := range decls {
		m := api.Meaning{Rest: randomValue(r, d.Sort)}
		for i := range []int{1, 4, 16}[len(d.Args)] {
			args := []int{i % 4, i / 4}[:len(d.Args)]
			m.Rows = append(m.Rows, api.Entry{Args: args, To: randomValue(r, d.Sort)})
		}
		w.Means = append(w.Means, m)
	}
	return w
}

// R6.3: what was written is read as a query that holds in the same interpretations, and is written likewise.
func TestSameInterpretations(t *testing.T) {
	r := rand.New(rand.NewSource(7))
	seen := map[bool]int{}
	for range 2000 {
		a := randomAsk(r)
		text, not := read.Text(a)
		if not != fine {
			continue
		}
		wantSame(t, text)
		again, _ := read.Ask(text)
		for range 10 {
			w := randomWorld(r, a.Decls)
			want, not := mean.Holds(a, w)
			if not.Code == api.ErrMuch {
				continue // perhaps of a node that is not used
			}
			got, gotNot := mean.Holds(again, w)
			if not != fine || gotNot != fine || got != want {
				t.Fatalf("in %v: %v %v of %v, but %v %v of %q", w, want, not, a, got, gotNot, text)
			}
			if len(a.Hold) > 0 {
				seen[want]++
			}
		}
	}
	if seen[true] < 500 || seen[false] < 5000 {
		t.Errorf("too few of a kind: %v", seen)
	}
}
