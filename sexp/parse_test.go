package sexp_test

import (
	"slices"
	"strings"
	"testing"

	"umpirage/api"
	"umpirage/sexp"
)

type parseCase struct {
	text string
	want []api.Sexp
}

func runParse(t *testing.T, cases []parseCase) {
	t.Helper()
	for _, c := range cases {
		for range 2 { // no state is kept from the first call to the second one
			if got, not := sexp.Parse(c.text); !equal(got, c.want) || not != fine {
				t.Errorf("Parse(%q) = %v %v, want %v", c.text, got, not, c.want)
			}
		}
	}
}

// R3.4
func TestParse(t *testing.T) {
	a, b, c := word("a"), word("b"), word("c")
	runParse(t, []parseCase{
		{"", nil},
		{"a", all(a)},
		{"a b", all(a, b)},
		{"()", all(list())},
		{"(a)", all(list(a))},
		{"(a b)", all(list(a, b))},
		{"(a ; comment\n b)", all(list(a, b))},
		{"(a(b)c)", all(list(a, list(b), c))},
		{"a(b)c", all(a, list(b), c)},
		{"()a()", all(list(), a, list())},
		{"()()", all(list(), list())},
		{"(()())", all(list(list(), list()))},
		{"((a)(b c))(())", all(list(list(a), list(b, c)), list(list()))},
		{"(a (b (c)) ((a)) b)", all(list(a, list(b, list(c)), list(list(a)), b))},
		{"!\"#$%&'*+,-./0123456789 :<=>?@[\\]^_`{|}~", all(word("!\"#$%&'*+,-./0123456789"), word(":<=>?@[\\]^_`{|}~"))},
		{within(40, "a"), all(nested(40, a))},
		{within(41, ""), all(nested(40, list()))},
		{within(40, "a () b") + "c", all(nested(39, list(a, list(), b)), c)},
		{within(41, "") + within(41, ""), all(nested(40, list()), nested(40, list()))},
		{letters(24), all(word(letters(24)))},
		{letters(24) + " " + letters(24) + "(" + letters(24) + ")" + letters(24) + ";" + letters(24),
			all(word(letters(24)), word(letters(24)), list(word(letters(24))), word(letters(24)))},
	})
	for _, c := range valid {
		runParse(t, []parseCase{{c.text, c.l}})
	}
}

// R3.4: white space and comments wherever they may stand.
func TestSpacesAndComments(t *testing.T) {
	a, b := word("a"), word("b")
	want := all(list(a, list(b, a), list()), b)
	parts := []string{"(", "a", "(", "b", "a", ")", "(", ")", ")", "b"}
	gaps := []string{
		" ", "\t", "\n", "\r", "\r\n", "  ", " \t\r\n ", ";\n", ";;\n", "; c \n", ";(\n", ";)\n", ";a;b\n", ";()\r\n",
		"\n;\n;\n\n", ";\x00\x01\v\f\x1b\x7f\x80\xff\n", ";é日\n", ";" + letters(100) + "\n", "\t;\r(\t\n", ";\n\t;\n\r",
	}
	for _, gap := range gaps {
		runParse(t, []parseCase{{strings.Join(parts, gap), want}, {gap + strings.Join(parts, gap) + gap, want}, {gap, nil}})
		for place := range len(parts) + 1 { // one gap alone, the others just where they have to be
			text := ""
			for i, part := range parts {
				switch {
				case i == place:
					text += gap
				case i > 0 && part == "a" && parts[i-1] == "b":
					text += " "
				}
				text += part
			}
			if place == len(parts) {
				text += gap
			}
			runParse(t, []parseCase{{text, want}})
		}
	}
	runParse(t, []parseCase{
		// a comment at the end of a text needs no newline
		{";", nil},
		{"; a", nil},
		{";)", nil},
		{"a;", all(a)},
		{"a;b", all(a)},
		{"a ;(", all(a)},
		{"()\n;)", all(list())},
		{"a;b\n;c", all(a)},
		{"a;\x00\xff", all(a)},
		// only a newline ends a comment
		{"a;b\rb\nb", all(a, b)},
		{"a;\rb", all(a)},
		{"a;\v\f\u0085\u2028b", all(a)},
		{"a;b;\nb", all(a, b)},
		{"(;a\na;b)\n)b", all(list(a), b)},
	})
}

// R3.4: every byte, in each place of a text.
func TestEveryByteInTexts(t *testing.T) {
	a := word("a")
	for c := range 256 {
		s := string([]byte{byte(c)})
		space := strings.Contains(" \t\n\r", s)
		wrong := !space && !canStand(c) && c != '(' && c != ')' && c != ';'
		switch {
		case wrong:
			for _, ahead := range []string{"", "a", " ", "(", "()", "(a ", "a\n", ";\n", letters(24)} {
				wantFault(t, ahead+s, fault(api.ErrText, len(ahead)))
				wantFault(t, ahead+s+"a)) \x00", fault(api.ErrText, len(ahead)))
			}
		case space:
			runParse(t, []parseCase{{s, nil}, {s + "a", all(a)}, {"a" + s, all(a)}, {"a" + s + "a", all(a, a)}, {"(" + s + ")", all(list())}})
		case canStand(c):
			w := word(s)
			runParse(t, []parseCase{
				{s, all(w)}, {s + " a", all(w, a)}, {"a " + s, all(a, w)}, {"a" + s + "a", all(word("a" + s + "a"))},
				{"(" + s + ")", all(list(w))}, {s + "()" + s + ";", all(w, list(), w)},
			})
		}
		runParse(t, []parseCase{{"a;" + s + "\na", all(a, a)}})
	}
}

func wantFault(t *testing.T, text string, want api.Fault) {
	t.Helper()
	if got, not := sexp.Parse(text); len(got) > 0 || not != want {
		t.Errorf("Parse(%q) = %v %v, want %v", text, got, not, want)
	}
}

// R3.4: texts with errors.
func TestInvalidTexts(t *testing.T) {
	long := letters(25)
	for _, c := range []struct {
		text string
		want api.Fault
	}{
		// parentheses
		{")", fault(api.ErrText, 0)},
		{"a)", fault(api.ErrText, 1)},
		{"())", fault(api.ErrText, 2)},
		{"(a) ) (", fault(api.ErrText, 4)},
		{"(()))", fault(api.ErrText, 4)},
		{"()\n;(\n)", fault(api.ErrText, 6)},
		{within(41, "") + ")", fault(api.ErrText, 82)},
		{"(", fault(api.ErrText, 1)},
		{"((", fault(api.ErrText, 2)},
		{"(()", fault(api.ErrText, 3)},
		{"(a", fault(api.ErrText, 2)},
		{"()(", fault(api.ErrText, 3)},
		{"( \n\t", fault(api.ErrText, 4)},
		{"(a b ;)", fault(api.ErrText, 7)},
		{"(;", fault(api.ErrText, 2)},
		{"(a ; )\n", fault(api.ErrText, 7)},
		{strings.Repeat("(", 41), fault(api.ErrText, 41)},
		{strings.Repeat("(", 40) + "a", fault(api.ErrText, 41)},

		// bytes that can stand nowhere
		{"\x00", fault(api.ErrText, 0)},
		{"a\vb", fault(api.ErrText, 1)},
		{"(a \x7f)", fault(api.ErrText, 3)},
		{"é", fault(api.ErrText, 0)},
		{"aé", fault(api.ErrText, 1)},
		{"\ufeffa", fault(api.ErrText, 0)},
		{"a\u00a0b", fault(api.ErrText, 1)},
		{";é\né", fault(api.ErrText, 4)},

		// words
		{long, fault(api.ErrName, 0)},
		{" " + long, fault(api.ErrName, 1)},
		{"(a " + long + ")", fault(api.ErrName, 3)},
		{letters(24) + " " + long, fault(api.ErrName, 25)},
		{letters(24) + "(" + long, fault(api.ErrName, 25)},
		{letters(4000), fault(api.ErrName, 0)},
		{";" + long + "\n" + long, fault(api.ErrName, 27)},

		// depths
		{strings.Repeat("(", 42), fault(api.ErrMuch, 41)},
		{within(42, ""), fault(api.ErrMuch, 41)},
		{within(41, "a"), fault(api.ErrMuch, 41)},
		{within(41, " a"), fault(api.ErrMuch, 42)},
		{within(41, ";\n("), fault(api.ErrMuch, 43)},
		{strings.Repeat("(", 4000), fault(api.ErrMuch, 41)},
		{within(40, "()a()(("), fault(api.ErrMuch, 46)},
		{"a" + within(41, "") + within(40, "(a)"), fault(api.ErrMuch, 124)},
		{within(40, "(a"), fault(api.ErrMuch, 41)},

		// several errors: the first one from the left
		{") \x00", fault(api.ErrText, 0)},
		{"\x00 )", fault(api.ErrText, 0)},
		{"(\x00", fault(api.ErrText, 1)},
		{"(" + long, fault(api.ErrName, 1)},
		{") " + long, fault(api.ErrText, 0)},
		{long + ")", fault(api.ErrName, 0)},
		{long + "\x00", fault(api.ErrName, 0)},
		{letters(24) + "\x00" + long, fault(api.ErrText, 24)},
		{letters(20) + "\x80" + letters(20), fault(api.ErrText, 20)},
		{letters(20) + ")" + letters(20), fault(api.ErrText, 20)},
		{long + strings.Repeat("(", 42), fault(api.ErrName, 0)},
		{strings.Repeat("(", 42) + long, fault(api.ErrMuch, 41)},
		{strings.Repeat("(", 41) + "\x00", fault(api.ErrText, 41)},
		{strings.Repeat("(", 41) + "a\x00", fault(api.ErrMuch, 41)},
		{within(41, "") + ")" + long, fault(api.ErrText, 82)},
		// and both at one word: they are checked in the order of the chapter
		{strings.Repeat("(", 41) + long, fault(api.ErrName, 41)},
	} {
		wantFault(t, c.text, c.want)
	}
}

// R3.4: texts of MaxText bytes and of more.
func TestParseOfLongTexts(t *testing.T) {
	blank := strings.Repeat(" ", 3999)
	runParse(t, []parseCase{
		{blank + "a", all(word("a"))},
		{"a" + blank, all(word("a"))},
		{";" + letters(3999), nil},
		{strings.Repeat("a ", 2000), words(2000, "a")},
		{strings.Repeat("()", 2000), slices.Repeat(all(list()), 2000)},
	})
	wantFault(t, blank+"\x00", fault(api.ErrText, 3999))
	wantFault(t, blank+"(", fault(api.ErrText, 4000))
	for _, text := range []string{
		blank + "a ",
		strings.Repeat(" ", 4001),
		strings.Repeat("a ", 2000) + "b",
		strings.Repeat("\x00", 4001),
		strings.Repeat("(", 4001),
		strings.Repeat(")", 4001),
		letters(4001),
		";" + letters(4000),
		letters(1 << 20),
	} {
		wantFault(t, text, many)
	}
}

// P1: no two lists of a result share memory, not even behind their ends, and no two results do.
func TestMemoryOfParse(t *testing.T) {
	text := "(a (b) (c d e) ()) ((f g (h i j k) l)) m ((()) n) () o"
	first, _ := sexp.Parse(text)
	second, _ := sexp.Parse(text)
	want := copyOf(second)
	spoil(first, false)
	if !equal(first, want) {
		t.Errorf("the result became %v", first)
	}
	spoil(first, true)
	if !equal(second, want) {
		t.Errorf("another result became %v", second)
	}
}

// spoil overwrites what is behind the ends of the lists, or all of them.
func spoil(l []api.Sexp, whole bool) {
	for _, e := range l {
		spoil(e.Kids, whole)
	}
	for i := range l[:cap(l)] {
		if whole || i >= len(l) {
			l[:cap(l)][i] = word("spoilt")
		}
	}
}
