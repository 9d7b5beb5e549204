package cnf_test

import (
	"strconv"
	"strings"
	"testing"

	"umpirage/api"
	"umpirage/cnf"
)

// TestText: R9.5
func TestText(t *testing.T) {
	for _, c := range []struct {
		c    api.Cnf
		want string
	}{
		{of(2, lits(1, 2), lits(-1)), "p cnf 2 2\n1 2 0\n-1 0\n"},
		{of(0), "p cnf 0 0\n"},
		{of(7), "p cnf 7 0\n"},
		{of(api.MaxAtoms), "p cnf 120 0\n"},
		{of(0, nil), "p cnf 0 1\n0\n"},
		{of(0, nil, lits(), nil), "p cnf 0 3\n0\n0\n0\n"},
		{of(1, lits(-1), nil, lits(1), lits(-1)), "p cnf 1 4\n-1 0\n0\n1 0\n-1 0\n"},
		{of(10, lits(10, -9, 1), lits(10)), "p cnf 10 2\n10 -9 1 0\n10 0\n"}, // neither sorted nor made unique
		{of(api.MaxAtoms, lits(-api.MaxAtoms, 100, -99)), "p cnf 120 1\n-120 100 -99 0\n"},
		{of(3, times(api.MaxClauses, 2, -3)...), "p cnf 3 400\n" + strings.Repeat("2 -3 0\n", api.MaxClauses)},
		{of(3, times(api.MaxClauses)...), "p cnf 3 400\n" + strings.Repeat("0\n", api.MaxClauses)},
		{of(24, upTo(api.MaxWide, -1)), "p cnf 24 1\n-1 -2 -3 -4 -5 -6 -7 -8 -9 -10 -11 -12 -13 -14 -15 -16 -17 -18 -19 -20 -21 -22 -23 -24 0\n"},
	} {
		if got, not := cnf.Text(c.c); got != c.want || not != fine {
			t.Errorf("Text(%v) = %q %v, want %q", c.c, got, not, c.want)
		}
	}
}

// widest is the formula with the longest text.
func widest() api.Cnf {
	clause := upTo(api.MaxWide, -1)
	for k := range clause {
		clause[k] -= api.MaxAtoms - api.MaxWide
	}
	return of(api.MaxAtoms, times(api.MaxClauses, clause...)...)
}

// TestReadText: R9.5, R9.6: the text of a formula is read as the formula.
func TestReadText(t *testing.T) {
	for _, c := range append(valid(), widest()) {
		text, _ := cnf.Text(c)
		if got, not := cnf.Read(text); !same(got, c) || not != fine {
			t.Errorf("Read(%q) = %v %v, want %v", text, got, not, c)
		}
		loose := strings.NewReplacer(" ", "\t \t", "\n", "\n\n c 0\n \t\nc\n").Replace(text)
		if len(loose) > 20*api.MaxText {
			continue
		}
		if got, not := cnf.Read(loose); !same(got, c) || not != fine {
			t.Errorf("Read(%q) = %v %v, want %v", loose, got, not, c)
		}
	}
}

// TestRead: R9.6
func TestRead(t *testing.T) {
	two := of(2, lits(1, 2), lits(-1))
	for _, c := range []struct {
		text string
		want api.Cnf
	}{
		{"p cnf 1 1\n-1\n0", of(1, lits(-1))},
		{"p cnf 2 2\n1 2 0\n-1 0\n", two},
		{"p cnf 2 2\n1 2 0\n-1 0", two},
		{"p cnf 0 0", of(0)},
		{"p cnf 0 0\n", of(0)},
		{"p cnf 120 0\n", of(api.MaxAtoms)},
		// clauses over several lines, and several on one
		{"p cnf 2 2\n1\n2\n0\n-1\n0\n", two},
		{"p cnf 2 2\n1 2 0 -1 0\n", two},
		{"p cnf 2 2\n1 2\n0 -1\n0\n", two},
		{"p cnf 2 2\n1\n2 0 -1 0", two},
		{"p cnf 2 4\n0 0 1 0 0", of(2, nil, nil, lits(1), nil)},
		{"p cnf 2 3\n0\n0\n0\n", of(2, nil, nil, nil)},
		{"p cnf 2 2\n2 0 2 0", of(2, lits(2), lits(2))},
		{"p cnf 2 2\n2 1 0 -2 1 0", of(2, lits(2, 1), lits(-2, 1))},
		// blanks, and lines without fields
		{"\n\n \n\t\n \t \np cnf 2 2\n\n1 2\n\n \n0\n\t\n-1 0\n\n\n", two},
		{"  p  cnf   2    2  \n 1  2 0  \n  -1 0 ", two},
		{"\tp\tcnf\t2\t2\t\n\t1\t\t2\t0\n-1\t0\t", two},
		{" \tp \tcnf\t 2 \t2\n1\t 2 \t0 \n-1\t0", two},
		// lines that begin with the field c
		{"c\np cnf 2 2\nc\n1 2 0\nc\n-1 0\nc", two},
		{"c x y\np cnf 2 2\n1 2\nc 0\n0 -1 0\nc 1 0\n", two},
		{"  c\n\tc\tx\np cnf 2 2\n \t c 3\n1 2 0 -1 0", two},
		{"c p cnf 1 1\np cnf 2 2\nc p cnf 1 1\n1 2 0 -1 0", two},
		{"c \x00\xff\r\u00a0é日 +1 -0 12345678\np cnf 2 2\n1 2 0 -1 0\nc\t\v\f\r", two},
		{"c " + strings.Repeat("c", 5000) + "\np cnf 2 2\n1 2 0 -1 0", two},
		// limits
		{"p cnf 120 2\n120 0 -120 0", of(api.MaxAtoms, lits(120), lits(-120))},
		{"p cnf 1 400\n" + strings.Repeat("0 ", api.MaxClauses), of(1, times(api.MaxClauses)...)},
		{"p cnf 1 400\n" + strings.Repeat("-1\n0\n", api.MaxClauses), of(1, times(api.MaxClauses, -1)...)},
	} {
		for range 2 { // no state is kept from the first call to the second one
			if got, not := cnf.Read(c.text); !same(got, c.want) || not != fine {
				t.Errorf("Read(%q) = %v %v, want %v", c.text, got, not, c.want)
			}
		}
	}
}

func wantFault(t *testing.T, text string, want api.Fault) {
	t.Helper()
	if got, not := cnf.Read(text); !isZero(got) || not != want {
		t.Errorf("Read(%.200q) = %v %v, want %v", text, got, not, want)
	}
}

// TestLength: R9.6: texts of 20*MaxText bytes, and of one more.
func TestLength(t *testing.T) {
	head := "p cnf 1 1\n1 0\n"
	for _, end := range []string{"", "\n", " ", "\nc", "\nx"} {
		for _, more := range []string{"\n", " ", "\t"} {
			count := 20*api.MaxText - len(head) - len(end)
			text := head + strings.Repeat(more, count) + end
			lines := strings.Count(text, "\n")
			got, not := cnf.Read(text)
			switch {
			case len(text) != 80000:
				t.Errorf("a text of %d bytes", len(text))
			case end == "\nx":
				wantFault(t, text, fault(api.ErrText, lines))
			case !same(got, of(1, lits(1))) || not != fine:
				t.Errorf("Read of %d bytes = %v %v", len(text), got, not)
			}
			wantFault(t, head+more+strings.Repeat(more, count)+end, fault(api.ErrMany, 0))
		}
	}
	for _, text := range []string{"x", "\n", " ", "c", "0", "\xff"} {
		wantFault(t, strings.Repeat(text, 80001), fault(api.ErrMany, 0))
	}
	wantFault(t, strings.Repeat("x", 80000), fault(api.ErrText, 0))
	wantFault(t, strings.Repeat("c", 80000), fault(api.ErrText, 0))
	wantFault(t, strings.Repeat("\n", 80000), fault(api.ErrSize, 0))
	wantFault(t, strings.Repeat(" ", 80000), fault(api.ErrSize, 0))
	wantFault(t, "p cnf 1 1\n"+strings.Repeat("1", 80000-10), fault(api.ErrText, 1))
}

// fields are such of lines, and whether they are numbers.
var fields = []struct {
	field    string
	isNumber bool
}{
	{"0", true}, {"1", true}, {"-1", true}, {"9", true}, {"10", true}, {"-10", true}, {"100", true},
	{"999999", true}, {"-999999", true}, {"1000000", true}, {"9999999", true}, {"-100000", true}, // up to 7 bytes
	{"12345678", false}, {"10000000", false}, {"-1000000", false}, {"-1234567", false}, {"-9999999", false}, // 8 bytes
	{"123456789", false}, {"9223372036854775807", false}, {"9223372036854775808", false}, {"-9223372036854775808", false},
	{"18446744073709551617", false}, {strings.Repeat("1", 1000), false},
	{"00", false}, {"01", false}, {"001", false}, {"0000001", false}, {"0000000", false}, {"00000000", false}, // leading zeros
	{"-01", false}, {"-001", false}, {"-00", false}, {"-0", false}, {"-00001", false},
	{"-", false}, {"--", false}, {"--1", false}, {"-1-", false}, {"1-", false}, {"1-1", false}, {"+", false}, {"+1", false}, {"+0", false}, {"-+1", false},
	{"a", false}, {"c", false}, {"p", false}, {"cnf", false}, {"1c", false}, {"c1", false}, {"0x1", false}, {"1x", false}, {"1e1", false}, {"1_0", false}, {"1.0", false}, {"0b1", false}, {"0o7", false},
	{"1,", false}, {"1\r", false}, {"\r", false}, {"\v", false}, {"1\f2", false}, {"\x00", false}, {"1\x00", false}, {"\xff", false}, {"1\xff", false},
	{"1\u00a02", false}, {"\u00a0", false}, {"\u0085", false}, {"\u2028", false}, {"1\u20282", false}, {"\u0661", false}, {"\u2212" + "1", false}, {"\ufeff", false}, {"\xa0", false}, {"\x85", false},
}

// TestNumbers: R9.6: each field of a line, and the two numbers of the first one.
func TestNumbers(t *testing.T) {
	for _, c := range fields {
		if !c.isNumber {
			wantFault(t, "p cnf "+c.field+" 0", fault(api.ErrText, 0))
			wantFault(t, "p cnf 1 "+c.field, fault(api.ErrText, 0))
			wantFault(t, "p cnf 1 0\n1\n1 "+c.field, fault(api.ErrText, 2))
			wantFault(t, "p cnf 1 0\n1 "+c.field+" 0\n-0", fault(api.ErrText, 1))
			if c.field != "c" {
				wantFault(t, "p cnf 1 0\n"+c.field+" 0", fault(api.ErrText, 1))
				wantFault(t, "\nc\np cnf 1 0\n\n\t"+c.field, fault(api.ErrText, 4))
			}
			continue
		}
		n, err := strconv.Atoi(c.field)
		if err != nil {
			t.Fatal(err)
		}
		wantFormula(t, "p cnf "+c.field+" 0", of(n), n >= 0 && n <= api.MaxAtoms)
		if n != 0 {
			wantFormula(t, "p cnf 100 1\n"+c.field+" 0", of(100, lits(n)), n >= -100 && n <= 100)
		}
		wantFault(t, "p cnf 1 "+c.field+"\n0"+strings.Repeat(" 0", n&1), fault(api.ErrSize, 0))
	}
}

// wantFormula is for texts that denote a formula, which may have numbers out of range.
func wantFormula(t *testing.T, text string, want api.Cnf, inRange bool) {
	t.Helper()
	if !inRange {
		wantFault(t, text, fault(api.ErrRange, 0))
	} else if got, not := cnf.Read(text); !same(got, want) || not != fine {
		t.Errorf("Read(%q) = %v %v, want %v", text, got, not, want)
	}
}

// TestEveryByte: R9.6: every byte, in each place of a text.
func TestEveryByte(t *testing.T) {
	want := of(3, lits(1), lits(-2))
	for c := range 256 {
		s := string([]byte{byte(c)})
		blank := strings.Contains(" \t\n", s)
		for line, text := range []string{"\n#p cnf 3 2\n1 0 -2 0", "\np# cnf 3 2\n1 0 -2 0", "\np cnf# 3 2\n1 0 -2 0", "\np cnf 3 2#\n1 0 -2 0",
			"\np cnf 3 2\n# 1 0 -2 0", "\np cnf 3 2\n1 # 0 -2 0", "\np cnf 3 2\n1 0 # -2 0", "\np cnf 3 2\n1 0 -2 0 #"} {
			text = strings.Replace(text, "#", s, 1)
			switch {
			case blank && (s != "\n" || line != 1 && line != 2):
				wantFormula(t, text, want, true)
			case blank, (c < '0' || c > '9') && (s != "c" || line != 4):
				wantFault(t, text, fault(api.ErrText, 1+line/4))
			}
		}
		if s != "\n" {
			wantFormula(t, "c "+s+" +\np cnf 3 2\nc "+s+"\n1 0 -2 0", want, true)
		}
		if !blank {
			wantFault(t, "c\nc"+s+"1\np cnf 3 2\n1 0 -2 0", fault(api.ErrText, 1))
		}
		base := "c 1\np cnf 13 2\n1 12 0\n-2 0"
		for at := range len(base) + 1 {
			compareRead(t, base[:at]+s+base[at:])
			compareRead(t, base[:at]+s+base[min(at+1, len(base)):])
		}
	}
}

// TestInvalidTexts: R9.6: texts with faults, some with several.
func TestInvalidTexts(t *testing.T) {
	many := strings.Repeat("1 0\n", api.MaxClauses+1)
	wide := "1 2 3 4 5 6 7 8 9 10 11 12 13 14 15 16 17 18 19 20 21 22 23 24 25 0 "
	for _, c := range []struct {
		text string
		want api.Fault
	}{
		// the line p cnf
		{"p", fault(api.ErrText, 0)},
		{"p cnf", fault(api.ErrText, 0)},
		{"p cnf 1", fault(api.ErrText, 0)},
		{"p cnf 1 0 0", fault(api.ErrText, 0)},
		{"p cnf 1 1 1 0", fault(api.ErrText, 0)},
		{"p cnf 1 0 c", fault(api.ErrText, 0)},
		{"p cnf\n1 0", fault(api.ErrText, 0)},
		{"p\ncnf 1 0", fault(api.ErrText, 0)},
		{"p cnf 1\n0", fault(api.ErrText, 0)},
		{"pcnf 1 0", fault(api.ErrText, 0)},
		{"p cnf1 0", fault(api.ErrText, 0)},
		{"P cnf 1 0", fault(api.ErrText, 0)},
		{"p CNF 1 0", fault(api.ErrText, 0)},
		{"p dnf 1 0", fault(api.ErrText, 0)},
		{"q cnf 1 0", fault(api.ErrText, 0)},
		{"cnf p 1 0", fault(api.ErrText, 0)},
		{"p p 1 0", fault(api.ErrText, 0)},
		{"1 0\np cnf 1 1", fault(api.ErrText, 0)},
		{"0\np cnf 1 1", fault(api.ErrText, 0)},
		{"0", fault(api.ErrText, 0)},
		{"1 2 3 4", fault(api.ErrText, 0)},
		{"c\n\nx\np cnf 1 0", fault(api.ErrText, 2)},
		{"p cnf 1 0\np cnf 1 0", fault(api.ErrText, 1)}, // there is only one
		{"p cnf 1 1\n1 0\np cnf 1 1\n1 0", fault(api.ErrText, 2)},
		{"p cnf 1 0\r\n", fault(api.ErrText, 0)},
		{"p cnf 1 0 \r\n", fault(api.ErrText, 0)},
		// the other lines
		{"cc\np cnf 1 0", fault(api.ErrText, 0)},
		{"c1\np cnf 1 0", fault(api.ErrText, 0)},
		{"C\np cnf 1 0", fault(api.ErrText, 0)},
		{"c\r\np cnf 1 0", fault(api.ErrText, 0)},
		{"p cnf 1 1\n1 0 c", fault(api.ErrText, 1)},
		{"p cnf 1 1\n1 c 0", fault(api.ErrText, 1)},
		{"p cnf 1 1\n1 0 cx\n", fault(api.ErrText, 1)},
		{"p cnf 1 1\n1 0\n\n%\n0\n", fault(api.ErrText, 3)},
		{"p cnf 1 1\n1 0\r\n", fault(api.ErrText, 1)},
		{"p cnf 1 1\n1 0\n\r\n", fault(api.ErrText, 2)},
		// the first of several such lines
		{"p cnf 1 1\n\nx\n\ny\n", fault(api.ErrText, 2)},
		{"x\np cnf 1\n", fault(api.ErrText, 0)},
		{"\np cnf 1\nx", fault(api.ErrText, 1)},
		{"c\np cnf 01 x\n0 -0", fault(api.ErrText, 1)},
		// sizes
		{"", fault(api.ErrSize, 0)},
		{"\n", fault(api.ErrSize, 0)},
		{" \t\n\t ", fault(api.ErrSize, 0)},
		{"c", fault(api.ErrSize, 0)},
		{"c\nc p cnf 0 0\n\n", fault(api.ErrSize, 0)},
		{"p cnf 1 1", fault(api.ErrSize, 0)},
		{"p cnf 1 1\nc 1 0", fault(api.ErrSize, 0)},
		{"p cnf 1 1\n1", fault(api.ErrSize, 0)},
		{"p cnf 1 0\n1", fault(api.ErrSize, 0)},
		{"p cnf 1 1\n1 0 1", fault(api.ErrSize, 0)},
		{"p cnf 1 2\n1 0 1", fault(api.ErrSize, 0)},
		{"p cnf 1 1\n1 0 1 0", fault(api.ErrSize, 0)},
		{"p cnf 1 0\n0", fault(api.ErrSize, 0)},
		{"p cnf 1 3\n0 0", fault(api.ErrSize, 0)},
		{"p cnf 1 -1", fault(api.ErrSize, 0)},
		{"p cnf 1 -1\n0", fault(api.ErrSize, 0)},
		{"p cnf 1 9999999\n0", fault(api.ErrSize, 0)},
		// those of Check
		{"p cnf -1 0", fault(api.ErrRange, 0)},
		{"p cnf 121 0", fault(api.ErrRange, 0)},
		{"p cnf 9999999 1\n1 0", fault(api.ErrRange, 0)},
		{"p cnf 1 401\n" + many, fault(api.ErrMany, 0)},
		{"p cnf 0 39000\n" + strings.Repeat("0 ", 39000), fault(api.ErrMany, 0)},
		{"p cnf 30 2\n0 " + wide, fault(api.ErrMany, 1)},
		{"p cnf 1 3\n0 0 2 0", fault(api.ErrRange, 2)},
		{"p cnf 0 1\n-1 0", fault(api.ErrRange, 0)},
		{"p cnf 1 1\n9999999 0", fault(api.ErrRange, 0)},
		{"p cnf 1 1\n-999999 0", fault(api.ErrRange, 0)},
		{"p cnf 2 2\n1 2 0\n2 1 2 0", fault(api.ErrTwice, 1)},
		{"p cnf 2 2\n1\n-1 0 2 2 0", fault(api.ErrTwice, 0)},
		// several faults: first those of lines, then those of sizes, then those of Check
		{"p cnf 121 5\n3 3 0 1\nx", fault(api.ErrText, 2)},
		{"p cnf 1 1\n" + many + "x", fault(api.ErrText, api.MaxClauses+2)},
		{"p cnf -1 0\n-0", fault(api.ErrText, 1)},
		{"p cnf 2 1\n3 0 -\n", fault(api.ErrText, 1)},
		{"c\n\n x", fault(api.ErrText, 2)},
		{"p cnf -1 1", fault(api.ErrSize, 0)},
		{"p cnf 121 0\n1", fault(api.ErrSize, 0)},
		{"p cnf 1 400\n" + many, fault(api.ErrSize, 0)},
		{"p cnf 1 401\n" + many + "1", fault(api.ErrSize, 0)},
		{"p cnf 1 2\n1 1 0", fault(api.ErrSize, 0)},
		{"p cnf 1 1\n2 0 1", fault(api.ErrSize, 0)},
		{"p cnf 121 401\n" + many, fault(api.ErrRange, 0)},
		{"p cnf 0 401\n" + many, fault(api.ErrMany, 0)},
		{"p cnf 1 2\n1 1 0 2 0", fault(api.ErrTwice, 0)},
		{"p cnf 1 2\n2 0 1 1 0", fault(api.ErrRange, 0)},
		{"p cnf 1 1\n" + wide, fault(api.ErrMany, 0)},
	} {
		wantFault(t, c.text, c.want)
	}
}
