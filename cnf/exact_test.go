package cnf_test

import (
	"math/rand"
	"regexp"
	"slices"
	"sort"
	"strconv"
	"strings"
	"testing"

	"umpirage/api"
	"umpirage/cnf"
)

// These tests compare package cnf with a second implementation, which takes texts apart with regular expressions
// and writes clauses as strings of bytes, and with the values of formulas under all assignments.

// exactCheck is what Check is to return.
func exactCheck(c api.Cnf) api.Fault {
	if c.Vars < 0 || c.Vars > 120 {
		return fault(api.ErrRange, 0)
	}
	if len(c.Clauses) > 400 {
		return fault(api.ErrMany, 0)
	}
	for i, clause := range c.Clauses {
		if len(clause) > 24 {
			return fault(api.ErrMany, i)
		}
		if not := exactList(clause, c.Vars); not != fine {
			return fault(not.Code, i)
		}
	}
	return fine
}

// exactList is what is wrong with a list of literals.
func exactList(l []int, vars int) api.Fault {
	for i, lit := range l {
		if !slices.Contains(upTo(vars, 1), lit) && !slices.Contains(upTo(vars, -1), lit) {
			return fault(api.ErrRange, -1-i)
		}
		if slices.Contains(l[:i], lit) || slices.Contains(l[:i], -lit) {
			return fault(api.ErrTwice, -1-i)
		}
	}
	return fine
}

// value tells whether a literal holds; bit k of an assignment is the value of variable k.
func value(lit, assignment int) bool {
	if lit < 0 {
		return assignment>>-lit&1 == 0
	}
	return assignment>>lit&1 == 1
}

// exactHolds tells whether no clause is false.
func exactHolds(c api.Cnf, assignment int) bool {
	count := 0
	for _, clause := range c.Clauses {
		for _, lit := range clause {
			if value(lit, assignment) {
				count++
				break
			}
		}
	}
	return count == len(c.Clauses)
}

// exactGiven is what Given is to return.
func exactGiven(c api.Cnf, l []int) api.Cnf {
	left := api.Cnf{Vars: c.Vars}
next:
	for _, clause := range c.Clauses {
		clause = slices.Clone(clause)
		for _, lit := range l {
			if slices.Contains(clause, lit) {
				continue next
			}
			if at := slices.Index(clause, -lit); at >= 0 {
				clause = slices.Delete(clause, at, at+1)
			}
		}
		left.Clauses = append(left.Clauses, clause)
	}
	return left
}

// exactNorm is what Norm is to return: strings have the order that clauses are to have.
func exactNorm(c api.Cnf) api.Cnf {
	texts := map[string]bool{}
	for _, clause := range c.Clauses {
		var text []byte
		for _, lit := range clause {
			if lit > 0 {
				text = append(text, byte(2*lit))
			} else {
				text = append(text, byte(-2*lit+1))
			}
		}
		sort.Slice(text, func(i, j int) bool { return text[i] < text[j] })
		texts[string(text)] = true
	}
	var sorted []string
	for text := range texts {
		sorted = append(sorted, text)
	}
	sort.Strings(sorted)
	norm := api.Cnf{Vars: c.Vars}
	for _, text := range sorted {
		var clause []int
		for _, b := range []byte(text) {
			clause = append(clause, int(b/2)*(1-2*int(b%2)))
		}
		norm.Clauses = append(norm.Clauses, clause)
	}
	return norm
}

// exactText is what Text is to return.
func exactText(c api.Cnf) string {
	lines := []string{"p cnf " + strconv.Itoa(c.Vars) + " " + strconv.Itoa(len(c.Clauses))}
	for _, clause := range c.Clauses {
		var words []string
		for _, lit := range append(slices.Clone(clause), 0) {
			words = append(words, strconv.Itoa(lit))
		}
		lines = append(lines, strings.Join(words, " "))
	}
	return strings.Join(lines, "\n") + "\n"
}

const numeral = `(0|[1-9][0-9]{0,6}|-[1-9][0-9]{0,5})`

var (
	ignored = regexp.MustCompile(`^[ \t]*(c([ \t][\s\S]*)?)?$`)
	header  = regexp.MustCompile(`^[ \t]*p[ \t]+cnf[ \t]+` + numeral + `[ \t]+` + numeral + `[ \t]*$`)
	numbers = regexp.MustCompile(`^([ \t]*` + numeral + `([ \t]|$))+[ \t]*$`)
)

// exactRead is what Read is to return for a text of at most 20*MaxText bytes.
func exactRead(text string) (api.Cnf, api.Fault) {
	var read api.Cnf
	var head, all []string
	for i, line := range strings.Split(text, "\n") {
		switch {
		case ignored.MatchString(line):
		case head == nil && header.MatchString(line):
			head = header.FindStringSubmatch(line)
		case head != nil && numbers.MatchString(line):
			all = append(all, strings.Fields(line)...)
		default:
			return api.Cnf{}, fault(api.ErrText, i)
		}
	}
	if head == nil || len(all) > 0 && all[len(all)-1] != "0" {
		return api.Cnf{}, fault(api.ErrSize, 0)
	}
	read.Vars, _ = strconv.Atoi(head[1])
	for len(all) > 0 {
		end := slices.Index(all, "0")
		var clause []int
		for _, word := range all[:end] {
			lit, _ := strconv.Atoi(word)
			clause = append(clause, lit)
		}
		read.Clauses, all = append(read.Clauses, clause), all[end+1:]
	}
	if strconv.Itoa(len(read.Clauses)) != head[2] {
		return api.Cnf{}, fault(api.ErrSize, 0)
	}
	if not := exactCheck(read); not != fine {
		return api.Cnf{}, not
	}
	return read, fine
}

func compareRead(t *testing.T, text string) api.Fault {
	t.Helper()
	want, wantNot := exactRead(text)
	got, not := cnf.Read(text)
	if !same(got, want) || not != wantNot {
		t.Fatalf("Read(%q) = %v %v, want %v %v", text, got, not, want, wantNot)
	}
	return not
}

// compare holds all functions of a formula without faults against the second implementation.
func compare(t *testing.T, c api.Cnf, lists [][]int) {
	t.Helper()
	if not := cnf.Check(c); not != fine {
		t.Fatalf("Check(%v) = %v", c, not)
	}
	norm, not := cnf.Norm(c)
	if want := exactNorm(c); !same(norm, want) || not != fine {
		t.Fatalf("Norm(%v) = %v %v, want %v", c, norm, not, want)
	}
	if again, not := cnf.Norm(norm); !same(again, norm) || not != fine {
		t.Fatalf("Norm(%v) = %v %v, but it is normal", norm, again, not)
	}
	text, not := cnf.Text(c)
	if want := exactText(c); text != want || not != fine {
		t.Fatalf("Text(%v) = %q %v, want %q", c, text, not, want)
	}
	if read, not := cnf.Read(text); !same(read, c) || not != fine {
		t.Fatalf("Read(%q) = %v %v, want %v", text, read, not, c)
	}
	for _, l := range lists {
		if got, not := cnf.Given(c, l); !same(got, exactGiven(c, l)) || not != fine {
			t.Fatalf("Given(%v, %v) = %v %v, want %v", c, l, got, not, exactGiven(c, l))
		}
	}
	if c.Vars <= 5 {
		compareValues(t, c, norm, lists)
	}
}

// compareValues holds a formula, its normal form and what is left of it against each other under all assignments.
func compareValues(t *testing.T, c, norm api.Cnf, lists [][]int) {
	t.Helper()
	for assignment := 0; assignment < 2<<c.Vars; assignment += 2 {
		a := make([]bool, c.Vars)
		for k := range a {
			a[k] = value(k+1, assignment)
		}
		want := exactHolds(c, assignment)
		holds, not := cnf.Holds(c, a)
		still, stillNot := cnf.Holds(norm, a)
		if holds != want || still != want || not != fine || stillNot != fine {
			t.Fatalf("%v under %v: %v %v, and its normal form %v %v, want %v", c, a, holds, not, still, stillNot, want)
		}
		for _, l := range lists {
			if slices.ContainsFunc(l, func(lit int) bool { return !value(lit, assignment) }) {
				continue
			}
			given, _ := cnf.Given(c, l)
			if left, not := cnf.Holds(given, a); left != want || not != fine {
				t.Fatalf("%v given %v under %v: %v %v, want %v", c, l, a, left, not, want)
			}
		}
	}
}

// allClauses are all lists of literals over so many variables, in every order.
func allClauses(vars int) [][]int {
	all := [][]int{nil}
	for i := 0; i < len(all); i++ {
		for v := range vars {
			for _, lit := range lits(v+1, -v-1) {
				if longer := append(slices.Clone(all[i]), lit); exactList(longer, vars) == fine {
					all = append(all, longer)
				}
			}
		}
	}
	return all
}

// TestSmallFormulas: R9.1 to R9.6: all formulas of few clauses over few variables, with all lists of literals.
func TestSmallFormulas(t *testing.T) {
	for vars, most := range []int{4, 5, 4, 2} {
		clauses := allClauses(vars)
		if want := []int{1, 3, 13, 79}[vars]; len(clauses) != want {
			t.Fatalf("%d clauses over %d variables", len(clauses), vars)
		}
		formulas := [][][]int{nil}
		for range most {
			for _, f := range formulas {
				compare(t, of(vars, f...), clauses)
			}
			var longer [][][]int
			for _, f := range formulas {
				for _, clause := range clauses {
					longer = append(longer, append(slices.Clone(f), clause))
				}
			}
			formulas = longer
		}
	}
}

// randomList is a list of literals.
func randomList(r *rand.Rand, vars, length int) []int {
	var l []int
	for _, v := range r.Perm(vars)[:min(vars, length)] {
		l = append(l, (v+1)*(1-2*r.Intn(2)))
	}
	return l
}

// randomFormula often repeats clauses, and parts of them.
func randomFormula(r *rand.Rand) api.Cnf {
	vars := []int{r.Intn(6), r.Intn(6), r.Intn(30), r.Intn(api.MaxAtoms + 1)}[r.Intn(4)]
	c := of(vars)
	for range []int{r.Intn(6), r.Intn(30), r.Intn(30), r.Intn(api.MaxClauses + 1)}[r.Intn(4)] {
		clause := randomList(r, vars, []int{r.Intn(4), r.Intn(4), r.Intn(api.MaxWide + 1)}[r.Intn(3)])
		if len(c.Clauses) > 0 && r.Intn(3) == 0 {
			clause = slices.Clone(c.Clauses[r.Intn(len(c.Clauses))])
			r.Shuffle(len(clause), func(i, j int) { clause[i], clause[j] = clause[j], clause[i] })
			clause = clause[:len(clause)-r.Intn(min(2, len(clause)+1))]
		}
		c.Clauses = append(c.Clauses, clause)
	}
	return c
}

// TestRandomFormulas: R9.1 to R9.6
func TestRandomFormulas(t *testing.T) {
	r := rand.New(rand.NewSource(9))
	for range 3000 {
		c := randomFormula(r)
		lists := [][]int{nil}
		for range 4 {
			lists = append(lists, randomList(r, c.Vars, r.Intn(c.Vars+1)))
		}
		compare(t, c, lists)
		mixed := api.Cnf{Vars: c.Vars, Clauses: slices.Clone(c.Clauses)}
		r.Shuffle(len(mixed.Clauses), func(i, j int) { mixed.Clauses[i], mixed.Clauses[j] = mixed.Clauses[j], mixed.Clauses[i] })
		norm, _ := cnf.Norm(c)
		if again, not := cnf.Norm(mixed); !same(again, norm) || not != fine {
			t.Fatalf("Norm(%v) = %v %v, and in another order %v", c, norm, not, again)
		}
	}
}

// TestRandomFaults: R9.1: formulas and lists with some numbers that are wrong.
func TestRandomFaults(t *testing.T) {
	r := rand.New(rand.NewSource(91))
	count := map[int]int{}
	for range 20000 {
		c := randomFormula(r)
		if len(c.Clauses) > 20 {
			c.Clauses = c.Clauses[:20]
		}
		if r.Intn(10) == 0 {
			c.Vars += []int{-1, 1, 100, -100}[r.Intn(4)]
		}
		for range r.Intn(3) * min(1, len(c.Clauses)) {
			i := r.Intn(len(c.Clauses))
			number := []int{0, c.Vars + 1, -c.Vars - 1, r.Intn(30) - 15}[r.Intn(4)]
			if n := len(c.Clauses[i]); n > 0 && r.Intn(2) == 0 {
				number = c.Clauses[i][r.Intn(n)] * (1 - 2*r.Intn(2))
			}
			c.Clauses[i] = append(slices.Clone(c.Clauses[i]), number)
			if r.Intn(10) == 0 {
				c.Clauses[i] = upTo(api.MaxWide+r.Intn(2), 1)
			}
		}
		want := exactCheck(c)
		if got := cnf.Check(c); got != want {
			t.Fatalf("Check(%v) = %v, want %v", c, got, want)
		}
		count[want.Code]++
		for _, l := range c.Clauses {
			if not := cnf.CheckLits(l, max(0, min(c.Vars, api.MaxAtoms))); not != exactList(l, max(0, min(c.Vars, api.MaxAtoms))) {
				t.Fatalf("CheckLits(%v, %d) = %v", l, c.Vars, not)
			}
		}
	}
	for _, code := range []int{api.OK, api.ErrRange, api.ErrMany, api.ErrTwice} {
		if count[code] < 300 {
			t.Errorf("too few formulas of a kind: %v", count)
		}
	}
}

// TestShortTexts: R9.6: all texts of few bytes, alone and behind a valid beginning.
func TestShortTexts(t *testing.T) {
	count := map[int]int{}
	for _, ahead := range []string{"", "p cnf 2 1\n", "c\np cnf 1 2", "p cnf 10 1\n1"} {
		for n := range 7 {
			eachText("01-c \n", n, func(text string) { count[compareRead(t, ahead+text).Code]++ })
		}
	}
	for _, code := range []int{api.OK, api.ErrText, api.ErrSize, api.ErrRange, api.ErrTwice} {
		if count[code] < 100 {
			t.Errorf("too few texts of a kind: %v", count)
		}
	}
}

// eachText calls f with every text of n of such bytes.
func eachText(of string, n int, f func(string)) {
	if n == 0 {
		f("")
		return
	}
	for i := range of {
		eachText(of, n-1, func(text string) { f(text + of[i:i+1]) })
	}
}

// TestRandomTexts: R9.6: texts of parts, most often with a valid first line.
func TestRandomTexts(t *testing.T) {
	r := rand.New(rand.NewSource(96))
	parts := []string{" ", "\n", "0", "1", "-1", " 2 ", "-2 ", " 3\n", "0\n", " 0 ", " 0 ", "\t", "c", "\nc ", "\n c\t", "p cnf 2 1\n", "-", "01", "x", "\r", "12345678", "1234567", "\x00", "\xff", "é"}
	count := map[int]int{}
	for range 60000 {
		var b strings.Builder
		if r.Intn(8) > 0 {
			b.WriteString([]string{"p cnf 3 ", " p\tcnf 2 ", "c\np cnf 120  ", "\nc 1\np cnf 1 "}[r.Intn(4)] + strconv.Itoa(r.Intn(4)) + "\n")
		}
		kinds := []int{11, 11, 15, len(parts)}[r.Intn(4)]
		for range r.Intn(14) {
			b.WriteString(parts[r.Intn(kinds)])
			if r.Intn(2) == 0 {
				b.WriteString(" ")
			}
		}
		count[compareRead(t, b.String()).Code]++
	}
	for _, code := range []int{api.OK, api.ErrText, api.ErrSize, api.ErrRange, api.ErrTwice} {
		if count[code] < 300 {
			t.Errorf("too few texts of a kind: %v", count)
		}
	}
}
