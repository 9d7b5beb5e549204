package sexp_test

import (
	"math/rand"
	"regexp"
	"strings"
	"testing"

	"umpirage/api"
	"umpirage/sexp"
)

// These tests compare package sexp with a second implementation that takes texts apart with a regular expression,
// and lists with a stack.

var token = regexp.MustCompile(`^(?:[ \t\n\r]+|;[^\n]*|\(|\)|[!-'*-:<-~]+)`)

// exactParse is what Parse is to return for a text of at most MaxText bytes.
func exactParse(text string) ([]api.Sexp, api.Fault) {
	top := []*api.Sexp{{List: true}}
	for at := 0; at < len(text); {
		part := token.FindString(text[at:])
		depth := len(top) - 1
		switch {
		case part == "", part == ")" && depth == 0:
			return nil, fault(api.ErrText, at)
		case part == ")":
			top[depth-1].Kids = append(top[depth-1].Kids, *top[depth])
			top = top[:depth]
		case strings.ContainsAny(part[:1], " \t\n\r;"):
		case part != "(" && len(part) > 24:
			return nil, fault(api.ErrName, at)
		case depth > 40:
			return nil, fault(api.ErrMuch, at)
		case part == "(":
			top = append(top, &api.Sexp{List: true})
		default:
			top[depth].Kids = append(top[depth].Kids, word(part))
		}
		at += len(part)
	}
	if len(top) > 1 {
		return nil, fault(api.ErrText, len(text))
	}
	return top[0].Kids, fine
}

// compareParse also holds Text against Parse: the text of what was read is read as the same.
func compareParse(t *testing.T, text string) api.Fault {
	t.Helper()
	want, wantNot := exactParse(text)
	got, not := sexp.Parse(text)
	if !equal(got, want) || not != wantNot {
		t.Fatalf("Parse(%q) = %v %v, want %v %v", text, got, not, want, wantNot)
	}
	if not == fine {
		compareText(t, got)
	}
	return not
}

// exactText is the text of a valid expression, of whatever length.
func exactText(e api.Sexp) string {
	if !e.List {
		return e.Word
	}
	var parts []string
	for _, kid := range e.Kids {
		parts = append(parts, exactText(kid))
	}
	return "(" + strings.Join(parts, " ") + ")"
}

func compareText(t *testing.T, l []api.Sexp) {
	t.Helper()
	want, wantNot := "", fine
	for _, e := range l {
		want += exactText(e) + "\n"
	}
	if len(want) > api.MaxText {
		want, wantNot = "", fault(api.ErrMuch, 0)
	}
	text, not := sexp.Text(l)
	if text != want || not != wantNot {
		t.Fatalf("Text(%v) = %q %v, want %q %v", l, text, not, want, wantNot)
	}
	if not != fine {
		return
	}
	if again, not := sexp.Parse(text); !equal(again, l) || not != fine {
		t.Fatalf("Parse(%q) = %v %v, want %v", text, again, not, l)
	}
}

func TestAllShortTexts(t *testing.T) {
	count := map[int]int{}
	for n := range 7 {
		eachText("()a; \n\x00", n, func(text string) { count[compareParse(t, text).Code]++ })
	}
	if count[api.OK] < 10000 || count[api.ErrText] < 10000 {
		t.Errorf("too few texts of a kind: %v", count)
	}
}

// eachText calls f with every text of n of such bytes.
func eachText(of string, n int, f func(string)) {
	if n == 0 {
		f("")
		return
	}
	for i := range of {
		eachText(of, n-1, func(text string) { f(text + of[i:i+1]) })
	}
}

func TestRandomTexts(t *testing.T) {
	source := rand.New(rand.NewSource(1))
	parts := []string{"(", ")", "a", "bc", " ", "\n", "\t", "\r", ";", "; x\n", "\x00", "\xff", letters(24), letters(25), within(30, ""), strings.Repeat("(", 40)}
	count := map[int]int{}
	for range 60000 {
		var b strings.Builder
		kinds := []int{10, 10, 12, 14, 16}[source.Intn(5)]
		for range source.Intn(30) {
			b.WriteString(parts[source.Intn(kinds)])
		}
		count[compareParse(t, b.String()).Code]++
	}
	for _, code := range []int{api.OK, api.ErrText, api.ErrName, api.ErrMuch} {
		if count[code] < 500 {
			t.Errorf("too few texts of a kind: %v", count)
		}
	}
}

// exactCheck is what Check is to return for at most MaxText expressions.
func exactCheck(l []api.Sexp) api.Fault {
	type placed struct {
		e     api.Sexp
		depth int
	}
	var stack []placed
	push := func(l []api.Sexp, depth int) {
		for i := range l {
			stack = append(stack, placed{l[len(l)-1-i], depth})
		}
	}
	whole := regexp.MustCompile(`^[!-'*-:<-~]{1,24}$`)
	push(l, 0)
	for at := 0; len(stack) > 0; at++ {
		top := stack[len(stack)-1]
		stack = stack[:len(stack)-1]
		switch {
		case top.e.List && top.e.Word != "", !top.e.List && len(top.e.Kids) > 0:
			return fault(api.ErrForm, at)
		case !top.e.List && !whole.MatchString(top.e.Word):
			return fault(api.ErrName, at)
		case top.depth > 40:
			return fault(api.ErrMuch, at)
		}
		push(top.e.Kids, top.depth+1)
	}
	return fine
}

// randomList has few expressions that are wrong.
func randomList(r *rand.Rand, deep int) []api.Sexp {
	var l []api.Sexp
	for range r.Intn(5) {
		e := word([]string{"a", "(", letters(24), "b", "c"}[min(r.Intn(40), 4)])
		if deep > 0 && r.Intn(2) > 0 {
			e = api.Sexp{List: true, Kids: randomList(r, deep-1)}
		}
		if deep == 0 && r.Intn(20) == 0 {
			e = nested(30+r.Intn(12), e)
		}
		if r.Intn(150) == 0 {
			e.List = !e.List
		}
		l = append(l, e)
	}
	return l
}

func TestRandomLists(t *testing.T) {
	source := rand.New(rand.NewSource(1))
	count := map[int]int{}
	for range 30000 {
		l := randomList(source, source.Intn(5))
		want := exactCheck(l)
		if got := sexp.Check(l); got != want {
			t.Fatalf("Check(%v) = %v, want %v", l, got, want)
		}
		if want == fine {
			compareText(t, l)
		} else if got, not := sexp.Text(l); got != "" || not != want {
			t.Fatalf("Text(%v) = %q %v, want %v", l, got, not, want)
		}
		count[want.Code]++
	}
	for _, code := range []int{api.OK, api.ErrForm, api.ErrName, api.ErrMuch} {
		if count[code] < 500 {
			t.Errorf("too few lists of a kind: %v", count)
		}
	}
}
