package sexp_test

import (
	"reflect"
	"slices"
	"strings"
	"testing"

	"umpirage/api"
	"umpirage/sexp"
)

var (
	fine = api.Fault{}
	many = api.Fault{Code: api.ErrMany}
)

func fault(code, at int) api.Fault { return api.Fault{Code: code, At: at} }

func word(s string) api.Sexp { return api.Sexp{Word: s} }

func list(kids ...api.Sexp) api.Sexp { return api.Sexp{List: true, Kids: kids} }

func all(l ...api.Sexp) []api.Sexp { return l }

// nested is e within so many lists.
func nested(depth int, e api.Sexp) api.Sexp {
	for range depth {
		e = list(e)
	}
	return e
}

// within is a text within so many pairs of parentheses.
func within(depth int, text string) string {
	return strings.Repeat("(", depth) + text + strings.Repeat(")", depth)
}

// words is a word, so many times.
func words(n int, s string) []api.Sexp { return slices.Repeat(all(word(s)), n) }

func letters(n int) string { return strings.Repeat("x", n) }

// equal tells whether lists are the same; an empty list may be nil or not.
func equal(a, b []api.Sexp) bool {
	return slices.EqualFunc(a, b, func(x, y api.Sexp) bool {
		return x.Word == y.Word && x.List == y.List && equal(x.Kids, y.Kids)
	})
}

// copyOf shares no memory with l.
func copyOf(l []api.Sexp) []api.Sexp {
	out := slices.Clone(l)
	for i := range out {
		out[i].Kids = copyOf(out[i].Kids)
	}
	return out
}

// canStand tells whether a byte can stand in a word.
func canStand(c int) bool {
	return strings.IndexByte("!\"#$%&'*+,-./0123456789:<=>?@ABCDEFGHIJKLMNOPQRSTUVWXYZ[\\]^_`abcdefghijklmnopqrstuvwxyz{|}~", byte(c)) >= 0
}

// notWords are no words of package sexp.
var notWords = []string{
	"", " ", "a b", " a", "a ", "a\n", "\ta", "(", ")", "()", "(a)", "a(", ")a", ";", ";a", "a;b",
	"\x00", "a\x00", "\x1f", "\x7f", "a\x7fb", "\x80", "\xff", "\xffa", "é", "a\u00a0b", "日本", "\xc3", "\v", "\f",
	letters(25), letters(26), letters(256 + 3), letters(1 << 16), letters(23) + "é", letters(24) + " ",
}

// The valid lists of R3.1, with their texts by R3.3.
var valid = []struct {
	l    []api.Sexp
	text string
}{
	{nil, ""},
	{all(word("a")), "a\n"},
	{all(list()), "()\n"},
	{all(list(word("a"), word("b"))), "(a b)\n"},
	{all(word("a"), word("b")), "a\nb\n"},
	{all(word("a"), list(), word("b"), list(word("c"))), "a\n()\nb\n(c)\n"},
	{all(list(list())), "(())\n"},
	{all(list(list(), list())), "(() ())\n"},
	{all(list(), list()), "()\n()\n"},
	{all(list(word("a"), list(word("b"), word("c")), word("d"))), "(a (b c) d)\n"},
	{all(list(list(word("a")), word("b"), list())), "((a) b ())\n"},
	{all(list(list(list(word("a"), word("b")), word("c")), list(word("d"), list(list(word("e")))))), "(((a b) c) (d ((e))))\n"},
	{all(word("!"), word("~"), word("a'b"), word(`"x"`), word(`\`), word("*"), word(":"), word("<")), "!\n~\na'b\n\"x\"\n\\\n*\n:\n<\n"},
	{all(word(letters(23)), word(letters(24)), list(word(letters(24)))), letters(23) + "\n" + letters(24) + "\n(" + letters(24) + ")\n"},
	{all(api.Sexp{Word: "a", Kids: []api.Sexp{}}, api.Sexp{List: true, Kids: []api.Sexp{}}), "a\n()\n"}, // empty, but not nil
	{all(nested(40, word("a"))), within(40, "a") + "\n"},
	{all(nested(40, list())), within(41, "") + "\n"},
	{all(nested(39, list(list(), word("b"), word("c"))), word("d")), within(40, "() b c") + "\nd\n"},
}

// R3.1, R3.2
func TestCheckOfValidLists(t *testing.T) {
	for _, c := range valid {
		for range 2 { // no state is kept from the first call to the second one
			if got := sexp.Check(c.l); got != fine {
				t.Errorf("Check(%v) = %v", c.l, got)
			}
		}
	}
}

// R3.1: every byte, alone and in each place of a word.
func TestEveryByteInWords(t *testing.T) {
	for c := range 256 {
		b := string([]byte{byte(c)})
		want := fine
		if !canStand(c) {
			want = fault(api.ErrName, 0)
		}
		for _, w := range []string{b, b + "a", "a" + b, "a" + b + "a", letters(23) + b, b + letters(23)} {
			if got := sexp.Check(all(word(w))); got != want {
				t.Errorf("Check of the word %q = %v, want %v", w, got, want)
			}
			text, not := sexp.Text(all(word(w)))
			if want == fine && text != w+"\n" || want != fine && text != "" || not != want {
				t.Errorf("Text of the word %q = %q %v", w, text, not)
			}
			if want != fine {
				continue
			}
			if got, not := sexp.Parse(w); !equal(got, all(word(w))) || not != fine {
				t.Errorf("Parse(%q) = %v %v", w, got, not)
			}
		}
	}
	for _, w := range notWords {
		if got := sexp.Check(all(word(w))); got != fault(api.ErrName, 0) {
			t.Errorf("Check of the word %q = %v", w, got)
		}
	}
}

// invalid are lists with what Check finds.
func invalid() []invalidList {
	bad, long := word("a b"), word(letters(25))
	wordOfKids := api.Sexp{Word: "a", Kids: all(word("b"))}
	listOfName := api.Sexp{Word: "a", List: true}
	return []invalidList{
		{all(bad), fault(api.ErrName, 0)},
		{all(api.Sexp{}), fault(api.ErrName, 0)},
		{all(wordOfKids), fault(api.ErrForm, 0)},
		{all(listOfName), fault(api.ErrForm, 0)},
		{all(api.Sexp{Word: " ", List: true}), fault(api.ErrForm, 0)},
		{all(api.Sexp{Word: "a", List: true, Kids: all(word("b"))}), fault(api.ErrForm, 0)},
		{all(api.Sexp{Kids: all(word("b"))}), fault(api.ErrForm, 0)},

		// numbers of expressions, in preorder
		{all(word("a"), word("b"), bad), fault(api.ErrName, 2)},
		{all(list(word("a"), word("b")), bad), fault(api.ErrName, 3)},
		{all(list(word("a"), list(word("b"), long), word("c"))), fault(api.ErrName, 4)},
		{all(list(word("a"), list(word("b"), list(word("c"))), bad)), fault(api.ErrName, 6)},
		{all(list(), list(), list(list(), listOfName)), fault(api.ErrForm, 4)},
		{all(word("a"), list(list(list()), wordOfKids)), fault(api.ErrForm, 4)},
		{all(list(list(list(word("a"), word("b")), word("c")), word("d")), api.Sexp{}), fault(api.ErrName, 7)},

		// depths
		{all(nested(41, word("a"))), fault(api.ErrMuch, 41)},
		{all(nested(41, list())), fault(api.ErrMuch, 41)},
		{all(nested(42, word("a"))), fault(api.ErrMuch, 41)},
		{all(nested(1000, list())), fault(api.ErrMuch, 41)},
		{all(nested(3999, list())), fault(api.ErrMuch, 41)},
		{all(nested(40, list()), nested(40, list(word("a")))), fault(api.ErrMuch, 82)},
		{all(word("a"), nested(37, list(nested(2, word("b")), nested(3, word("c"))))), fault(api.ErrMuch, 45)},

		// several errors at one expression
		{all(api.Sexp{Word: "a b", Kids: all(word("b"))}), fault(api.ErrForm, 0)},
		{all(api.Sexp{Word: letters(25), Kids: all(bad)}), fault(api.ErrForm, 0)},
		{all(nested(41, bad)), fault(api.ErrName, 41)},
		{all(nested(41, wordOfKids)), fault(api.ErrForm, 41)},
		{all(nested(41, listOfName)), fault(api.ErrForm, 41)},

		// several expressions with errors
		{all(bad, wordOfKids), fault(api.ErrName, 0)},
		{all(wordOfKids, bad), fault(api.ErrForm, 0)},
		{all(list(bad), wordOfKids), fault(api.ErrName, 1)},
		{all(nested(41, word("a")), bad), fault(api.ErrMuch, 41)},
		{all(bad, nested(41, word("a"))), fault(api.ErrName, 0)},
		{all(nested(41, list(bad))), fault(api.ErrMuch, 41)},
		{all(api.Sexp{Word: "a", List: true, Kids: all(bad)}, bad), fault(api.ErrForm, 0)},
		{all(api.Sexp{Word: "a", Kids: all(bad, wordOfKids)}, bad), fault(api.ErrForm, 0)},
		{append(words(3998, "a"), word("b"), bad), fault(api.ErrName, 3999)},

		// too many expressions, ahead of all else
		{words(4001, "a"), many},
		{words(1<<17, ""), many},
		{all(list(words(4000, "a")...)), many},
		{append(words(3998, "a"), list(word("a"), word("b"))), many},
		{append(all(list(word("a"), word("b"))), words(3998, "a")...), many},
		{append(words(4000, "a"), bad), many},
		{append(all(bad), words(4000, "a")...), many},
		{append(all(listOfName), words(4000, "a")...), many},
		{all(nested(4000, list())), many},
		{all(nested(100000, list())), many},
		{all(api.Sexp{Word: "a b", Kids: words(4000, "a")}), many},
		{all(list(), api.Sexp{Word: "a", List: true, Kids: words(3999, "a")}), many},
	}
}

type invalidList struct {
	l    []api.Sexp
	want api.Fault
}

// R3.2, and the faults of R3.3 that are those of Check.
func TestInvalidLists(t *testing.T) {
	for i, c := range invalid() {
		if got := sexp.Check(c.l); got != c.want {
			t.Errorf("list %d: Check = %v, want %v", i, got, c.want)
		}
		if got, not := sexp.Text(c.l); got != "" || not != c.want {
			t.Errorf("list %d: Text = %q %v, want %v", i, got, not, c.want)
		}
	}
}

// R3.2: as many expressions as there may be, wherever they are.
func TestCheckOfManyExpressions(t *testing.T) {
	rows := slices.Repeat(all(list(words(7, "a")...)), 500) // 4000 in all
	for i, l := range [][]api.Sexp{
		words(4000, "a"),
		words(4000, letters(24)),
		slices.Repeat(all(list()), 4000),
		all(list(words(3999, "a")...)),
		append(words(3997, "a"), list(word("a"), word("b"))),
		append(words(3959, "a"), nested(40, word("b"))),
		rows,
	} {
		if got := sexp.Check(l); got != fine {
			t.Errorf("list %d: Check = %v", i, got)
		}
		for _, more := range [][]api.Sexp{
			append(slices.Clone(l), word("a")),
			append(all(list()), l...),
			all(list(l...)),
		} {
			if got := sexp.Check(more); got != many {
				t.Errorf("list %d with one expression more: Check = %v", i, got)
			}
		}
	}
}

// R3.2: lists that contain themselves, or others so often that nobody could count their expressions, are too long.
func TestEndlessLists(t *testing.T) {
	self := all(list())
	self[0].Kids = self
	wide := all(list(), word("a"), list(), word(" "))
	wide[0].Kids, wide[2].Kids = wide, wide
	odd := all(api.Sexp{Word: "a"})
	odd[0].Kids = odd
	pair, other := all(list(), list()), all(list())
	pair[1].Kids, other[0].Kids = other, pair
	huge := all(word("a"))
	for range 200 {
		huge = slices.Repeat(all(list(huge...)), 8)
	}
	for i, l := range [][]api.Sexp{self, wide, odd, pair, huge, all(list(word("a"), list(self...)))} {
		if got := sexp.Check(l); got != many {
			t.Errorf("list %d: Check = %v", i, got)
		}
		if got, not := sexp.Text(l); got != "" || not != many {
			t.Errorf("list %d: Text = %q %v", i, got, not)
		}
	}
}

// A list that stands in several places of a short list is in each of them an expression.
func TestSharedLists(t *testing.T) {
	part := list(word("a"), list())
	l := all(part, list(part, part), part)
	text, not := sexp.Text(l)
	if text != "(a ())\n((a ()) (a ()))\n(a ())\n" || not != fine {
		t.Errorf("Text = %q %v", text, not)
	}
	if got := sexp.Check(append(l, word(""))); got != fault(api.ErrName, 13) {
		t.Errorf("Check = %v", got)
	}
}

// R3.3
func TestText(t *testing.T) {
	for _, c := range valid {
		for range 2 { // no state is kept from the first call to the second one
			if got, not := sexp.Text(c.l); got != c.text || not != fine {
				t.Errorf("Text(%v) = %q %v, want %q", c.l, got, not, c.text)
			}
		}
	}
}

// R3.3: texts of MaxText bytes, and longer ones.
func TestTextsThatAreLong(t *testing.T) {
	ofWords := words(160, letters(24)) // 25 bytes each
	for i, c := range []struct {
		l    []api.Sexp
		size int
	}{
		{words(2000, "a"), 4000},
		{words(1999, "a"), 3998},
		{append(words(1999, "a"), word("bc")), 4001},
		{words(2001, "a"), 4002},
		{append(words(1998, "a"), word("bcd")), 4000},
		{ofWords, 4000},
		{append(ofWords[:159:159], list(word(letters(22)))), 4000},
		{append(ofWords[:159:159], list(word(letters(23)))), 4001},
		{append(ofWords[:158:158], list(word(letters(24)), word(letters(22)))), 4000},
		{append(ofWords[:158:158], list(word(letters(24)), word(letters(23)))), 4001},
		{append(ofWords[:159:159], nested(12, word("a"))), 4001},
		{append(ofWords[:159:159], nested(11, list())), 4000},
		{all(list(words(1998, "a")...)), 3998},
		{all(list(words(1999, "a")...)), 4000},
		{all(list(words(2000, "a")...)), 4002},
		{all(list(append(words(1998, "a"), word("bc"))...)), 4001},
		{slices.Repeat(all(list()), 1333), 3999},
		{slices.Repeat(all(list()), 1334), 4002},
		{words(4000, "a"), 8000},
		{words(4000, letters(24)), 100000},
	} {
		got, not := sexp.Text(c.l)
		if c.size > 4000 {
			if got != "" || not != fault(api.ErrMuch, 0) {
				t.Errorf("list %d: Text has %d bytes, %v", i, len(got), not)
			}
		} else if len(got) != c.size || not != fine {
			t.Errorf("list %d: Text has %d bytes, %v, want %d", i, len(got), not, c.size)
		}
	}
	// What Check finds comes first.
	for _, c := range []invalidList{
		{append(words(3999, letters(24)), word("")), fault(api.ErrName, 3999)},
		{append(words(3999, letters(24)), api.Sexp{Word: "a", List: true}), fault(api.ErrForm, 3999)},
		{append(words(3958, letters(24)), nested(41, word("b"))), fault(api.ErrMuch, 3999)},
		{words(4001, letters(24)), many},
	} {
		if got, not := sexp.Text(c.l); got != "" || not != c.want {
			t.Errorf("Text has %d bytes, %v, want %v", len(got), not, c.want)
		}
	}
}

// P1: arguments stay as they are.
func TestArguments(t *testing.T) {
	lists := invalid()
	for _, c := range valid {
		lists = append(lists, invalidList{l: c.l})
	}
	for i, c := range lists {
		before := copyOf(c.l)
		sexp.Check(c.l)
		sexp.Text(c.l)
		if !reflect.DeepEqual(c.l, before) {
			t.Errorf("list %d changed", i)
		}
	}
}
