package cnf

import (
	"strconv"
	"strings"

	"umpirage/api"
)

const (
	maxText   = 20 * api.MaxText // bytes of a text
	maxNumber = 7                // bytes of a number, its sign among them
)

// Text is a formula in the DIMACS format.
func Text(c api.Cnf) (string, api.Fault) {
	if fault := Check(c); fault != (api.Fault{}) {
		return "", fault
	}
	var b strings.Builder
	b.WriteString("p cnf " + strconv.Itoa(c.Vars) + " " + strconv.Itoa(len(c.Clauses)) + "\n")
	for _, clause := range c.Clauses {
		for _, lit := range clause {
			b.WriteString(strconv.Itoa(lit) + " ")
		}
		b.WriteString("0\n")
	}
	return b.String(), api.Fault{}
}

// Read is the formula with a text in the DIMACS format.
func Read(text string) (api.Cnf, api.Fault) {
	if len(text) > maxText {
		return api.Cnf{}, api.Fault{Code: api.ErrMany}
	}
	var r reader
	for i, line := range strings.Split(text, "\n") {
		if !r.line(strings.FieldsFunc(line, isBlank)) {
			return api.Cnf{}, api.Fault{Code: api.ErrText, At: i}
		}
	}
	if !r.complete() {
		return api.Cnf{}, api.Fault{Code: api.ErrSize}
	}
	if fault := Check(r.cnf); fault != (api.Fault{}) {
		return api.Cnf{}, fault
	}
	return r.cnf, api.Fault{}
}

// isBlank tells whether a rune separates the fields of a line; other white space does not.
func isBlank(r rune) bool { return r == ' ' || r == '\t' }

// reader takes in a text line by line.
type reader struct {
	headed    bool // the line "p cnf" is there
	announced int  // clauses, by that line
	cnf       api.Cnf
	open      []int // literals of a clause that no 0 has ended yet
}

// line takes in the fields of a line, and tells whether it follows the rules.
func (r *reader) line(fields []string) bool {
	if len(fields) == 0 || fields[0] == "c" {
		return true
	}
	if !r.headed {
		return r.head(fields)
	}
	for _, field := range fields {
		n, good := numberOf(field)
		if !good {
			return false
		}
		r.number(n)
	}
	return true
}

// head takes in the fields of the line "p cnf", and tells whether it follows the rules.
func (r *reader) head(fields []string) bool {
	if len(fields) != 4 || fields[0] != "p" || fields[1] != "cnf" {
		return false
	}
	vars, goodVars := numberOf(fields[2])
	clauses, goodClauses := numberOf(fields[3])
	r.headed, r.announced, r.cnf.Vars = true, clauses, vars
	return goodVars && goodClauses
}

// number takes in a literal, or a 0, which ends a clause.
func (r *reader) number(n int) {
	if n != 0 {
		r.open = append(r.open, n)
		return
	}
	r.cnf.Clauses = append(r.cnf.Clauses, r.open)
	// Not r.open[:0]: its memory belongs to the clause.
	r.open = nil
}

// complete tells whether the text may end here.
func (r *reader) complete() bool {
	return r.headed && len(r.open) == 0 && len(r.cnf.Clauses) == r.announced
}

// numberOf is the number that a field denotes, if it does.
func numberOf(field string) (int, bool) {
	if len(field) > maxNumber {
		return 0, false
	}
	n, err := strconv.Atoi(field)
	// The second condition bars needless zeros, the sign of +1 and that of -0.
	return n, err == nil && strconv.Itoa(n) == field
}
