package cnf_test

import (
	"math"
	"slices"
	"testing"

	"umpirage/api"
	"umpirage/cnf"
)

var fine = api.Fault{}

func fault(code, at int) api.Fault { return api.Fault{Code: code, At: at} }

// of is a formula.
func of(vars int, clauses ...[]int) api.Cnf { return api.Cnf{Vars: vars, Clauses: clauses} }

// lits is a clause, or a list of literals.
func lits(l ...int) []int { return l }

// same tells whether formulas are the same; empty lists may be nil or not.
func same(a, b api.Cnf) bool {
	return a.Vars == b.Vars && slices.EqualFunc(a.Clauses, b.Clauses, slices.Equal[[]int])
}

// isZero tells whether a formula is the zero value, as it is together with a fault.
func isZero(c api.Cnf) bool { return c.Vars == 0 && len(c.Clauses) == 0 }

// upTo is the literals from 1 to n, or with a sign of -1 their negations.
func upTo(n, sign int) []int {
	var l []int
	for k := range n {
		l = append(l, sign*(k+1))
	}
	return l
}

// times is a clause n times.
func times(n int, clause ...int) [][]int { return slices.Repeat([][]int{clause}, n) }

// noVars are numbers of variables that no formula has.
var noVars = []int{math.MinInt, -1000, -2, -1, api.MaxAtoms + 1, api.MaxAtoms + 2, 1 << 32, math.MaxInt}

// noLits are numbers that are no literals over so many variables.
func noLits(vars int) []int {
	return []int{0, vars + 1, -vars - 1, vars + 2, 1000, -1000, 1 << 32, -1 << 32, math.MaxInt, -math.MaxInt, math.MinInt}
}

// valid are formulas without faults, with the limits among them.
func valid() []api.Cnf {
	var units [][]int
	for _, lit := range upTo(api.MaxAtoms, 1) {
		units = append(units, lits(lit), lits(-lit))
	}
	return []api.Cnf{
		of(0), // no clauses
		of(1),
		of(api.MaxAtoms),
		{Vars: 3, Clauses: [][]int{}},
		of(0, nil), // empty clauses
		of(0, lits()),
		of(0, nil, lits(), nil),
		of(2, lits(1), nil, lits(2)),
		of(0, times(api.MaxClauses)...),
		of(1, lits(1)),
		of(1, lits(-1)),
		of(1, lits(1), lits(-1)), // both signs of a variable, in two clauses
		of(1, lits(1), lits(1)),
		of(2, lits(1, 2), lits(-1)),
		of(2, lits(2, 1), lits(2, -1), lits(-2, 1), lits(-2, -1)),
		of(3, lits(3, -1, 2), lits(-2), lits(1, 3)),
		of(api.MaxAtoms, units...),
		of(api.MaxAtoms, lits(api.MaxAtoms, 1, -api.MaxAtoms+1)),
		of(api.MaxWide, upTo(api.MaxWide, 1)),
		of(api.MaxWide, upTo(api.MaxWide, -1), nil, upTo(api.MaxWide, 1)),
		of(api.MaxAtoms, times(api.MaxClauses, upTo(api.MaxWide, -1)...)...),
		of(api.MaxAtoms, append(times(api.MaxClauses-1, 2), lits(-api.MaxAtoms))...),
	}
}

// spoilt are formulas with faults, some with several.
func spoilt() []struct {
	c    api.Cnf
	want api.Fault
} {
	wide := append(upTo(api.MaxWide, 1), api.MaxWide+1)
	l := []struct {
		c    api.Cnf
		want api.Fault
	}{
		// one fault
		{of(0, times(api.MaxClauses+1)...), fault(api.ErrMany, 0)},
		{of(1, times(api.MaxClauses+1, 1)...), fault(api.ErrMany, 0)},
		{of(1, times(5*api.MaxClauses, 1)...), fault(api.ErrMany, 0)},
		{of(api.MaxAtoms, wide), fault(api.ErrMany, 0)},
		{of(api.MaxAtoms, nil, lits(1), wide, lits(2)), fault(api.ErrMany, 2)},
		{of(api.MaxAtoms, append(times(api.MaxClauses-1), upTo(api.MaxAtoms, -1))...), fault(api.ErrMany, api.MaxClauses-1)},
		{of(1, lits(2)), fault(api.ErrRange, 0)},
		{of(0, lits(1)), fault(api.ErrRange, 0)},
		{of(0, lits(-1)), fault(api.ErrRange, 0)},
		{of(2, lits(1), lits(1, 0)), fault(api.ErrRange, 1)},
		{of(1, append(times(api.MaxClauses-1, -1), lits(0))...), fault(api.ErrRange, api.MaxClauses-1)},
		{of(1, lits(1, 1)), fault(api.ErrTwice, 0)},
		{of(1, lits(1, -1)), fault(api.ErrTwice, 0)},
		{of(1, lits(-1, 1)), fault(api.ErrTwice, 0)},
		{of(1, lits(-1, -1)), fault(api.ErrTwice, 0)},
		{of(3, lits(1, 2, 3), lits(3, 2, 1), lits(1, 2, -1)), fault(api.ErrTwice, 2)},
		{of(api.MaxAtoms, append([]int{api.MaxAtoms}, api.MaxAtoms-1, -api.MaxAtoms)), fault(api.ErrTwice, 0)},
		{of(api.MaxAtoms, append(upTo(api.MaxWide-1, 1), -1)), fault(api.ErrTwice, 0)},
		// several faults: the formula ahead of its clauses
		{of(-1, times(api.MaxClauses+1, 0)...), fault(api.ErrRange, 0)},
		{of(api.MaxAtoms+1, times(api.MaxClauses+1)...), fault(api.ErrRange, 0)},
		{of(api.MaxAtoms+1, nil, wide), fault(api.ErrRange, 0)},
		{of(api.MaxAtoms+1, nil, lits(1, 1)), fault(api.ErrRange, 0)},
		{of(1, times(api.MaxClauses+1, 0)...), fault(api.ErrMany, 0)},
		{of(1, append(times(api.MaxClauses, 1), lits(1, 1))...), fault(api.ErrMany, 0)},
		// the width of a clause ahead of its literals
		{of(1, nil, wide), fault(api.ErrMany, 1)},
		{of(1, nil, make([]int, api.MaxWide+1)), fault(api.ErrMany, 1)},
		{of(1, nil, make([]int, api.MaxWide)), fault(api.ErrRange, 1)},
		{of(1, slices.Repeat(lits(1), api.MaxWide+1)), fault(api.ErrMany, 0)},
		{of(1, slices.Repeat(lits(1), api.MaxWide)), fault(api.ErrTwice, 0)},
		// the first literal of a clause, whichever its fault is
		{of(2, lits(1, 1, 0)), fault(api.ErrTwice, 0)},
		{of(2, lits(0, 1, 1)), fault(api.ErrRange, 0)},
		{of(2, lits(1, 0, 1)), fault(api.ErrRange, 0)},
		{of(2, lits(1, -1, 3)), fault(api.ErrTwice, 0)},
		{of(2, lits(3, 3)), fault(api.ErrRange, 0)},
		{of(2, lits(0, 0)), fault(api.ErrRange, 0)},
		// the first clause, whichever its fault is
		{of(2, lits(1), lits(2, 2), lits(0)), fault(api.ErrTwice, 1)},
		{of(2, lits(1), lits(0), lits(2, 2)), fault(api.ErrRange, 1)},
		{of(2, lits(1), lits(-3), wide), fault(api.ErrRange, 1)},
		{of(2, lits(1), wide, lits(-3)), fault(api.ErrMany, 1)},
		{of(2, lits(2, 1, 2), wide), fault(api.ErrTwice, 0)},
	}
	for _, vars := range noVars {
		for _, c := range []api.Cnf{of(vars), of(vars, lits(1)), of(vars, nil, lits(0))} {
			l = append(l, struct {
				c    api.Cnf
				want api.Fault
			}{c, fault(api.ErrRange, 0)})
		}
	}
	for _, vars := range []int{0, 1, 7, api.MaxAtoms - 1, api.MaxAtoms} {
		for _, lit := range noLits(vars) {
			for _, c := range []api.Cnf{of(vars, nil, lits(lit)), of(vars, lits(), append(upTo(min(vars, 3), -1), lit))} {
				l = append(l, struct {
					c    api.Cnf
					want api.Fault
				}{c, fault(api.ErrRange, 1)})
			}
		}
	}
	return l
}

// TestCheck: R9.1: formulas without faults.
func TestCheck(t *testing.T) {
	for _, c := range valid() {
		if got := cnf.Check(c); got != fine {
			t.Errorf("Check(%v) = %v", c, got)
		}
	}
}

// TestFaults: R9.1, P3: the first fault of a formula, which all functions report, ahead of those of their own.
func TestFaults(t *testing.T) {
	for _, s := range spoilt() {
		if got := cnf.Check(s.c); got != s.want {
			t.Errorf("Check(%v) = %v, want %v", s.c, got, s.want)
		}
		for _, a := range [][]bool{nil, make([]bool, max(0, min(s.c.Vars, api.MaxAtoms))), make([]bool, 2*api.MaxAtoms)} {
			if got, not := cnf.Holds(s.c, a); got || not != s.want {
				t.Errorf("Holds(%v, %v) = %v %v, want %v", s.c, a, got, not, s.want)
			}
		}
		for _, l := range [][]int{nil, lits(1), lits(0), lits(1, 1), lits(1, math.MinInt)} {
			if got, not := cnf.Given(s.c, l); !isZero(got) || not != s.want {
				t.Errorf("Given(%v, %v) = %v %v, want %v", s.c, l, got, not, s.want)
			}
		}
		if got, not := cnf.Norm(s.c); !isZero(got) || not != s.want {
			t.Errorf("Norm(%v) = %v %v, want %v", s.c, got, not, s.want)
		}
		if got, not := cnf.Text(s.c); got != "" || not != s.want {
			t.Errorf("Text(%v) = %q %v, want %v", s.c, got, not, s.want)
		}
	}
}

// TestEveryLiteral: R9.1: a number is a literal if its variable is one of the formula's.
func TestEveryLiteral(t *testing.T) {
	for vars := range api.MaxAtoms + 1 {
		for lit := -api.MaxAtoms - 2; lit <= api.MaxAtoms+2; lit++ {
			want, wantList := fault(api.ErrRange, 1), fault(api.ErrRange, -1)
			if lit != 0 && max(lit, -lit) <= vars {
				want, wantList = fine, fine
			}
			if got := cnf.Check(of(vars, nil, lits(lit))); got != want {
				t.Errorf("Check of the clause [%d] over %d variables = %v, want %v", lit, vars, got, want)
			}
			if got := cnf.CheckLits(lits(lit), vars); got != wantList {
				t.Errorf("CheckLits([%d], %d) = %v, want %v", lit, vars, got, wantList)
			}
		}
	}
}

// spoiltLists are lists of literals over three variables with faults, some with several.
var spoiltLists = []struct {
	l    []int
	want api.Fault
}{
	{[]int{0}, fault(api.ErrRange, -1)},
	{[]int{4}, fault(api.ErrRange, -1)},
	{[]int{-4}, fault(api.ErrRange, -1)},
	{[]int{math.MinInt}, fault(api.ErrRange, -1)},
	{[]int{math.MaxInt}, fault(api.ErrRange, -1)},
	{[]int{1, 0}, fault(api.ErrRange, -2)},
	{[]int{1, 2, 3, 4}, fault(api.ErrRange, -4)},
	{[]int{1, 2, 3, 0}, fault(api.ErrRange, -4)},
	{[]int{-3, math.MinInt, 1}, fault(api.ErrRange, -2)},
	{[]int{1, 1}, fault(api.ErrTwice, -2)},
	{[]int{1, -1}, fault(api.ErrTwice, -2)},
	{[]int{-1, 1}, fault(api.ErrTwice, -2)},
	{[]int{-3, -3}, fault(api.ErrTwice, -2)},
	{[]int{1, 2, 3, 1}, fault(api.ErrTwice, -4)},
	{[]int{3, 2, 1, -2}, fault(api.ErrTwice, -4)},
	{[]int{1, 1, 0}, fault(api.ErrTwice, -2)},
	{[]int{1, 0, 1}, fault(api.ErrRange, -2)},
	{[]int{1, -1, 2, 2}, fault(api.ErrTwice, -2)},
	{[]int{2, 1, 2, 1}, fault(api.ErrTwice, -3)},
	{[]int{5, 5}, fault(api.ErrRange, -1)},
	{[]int{0, 0}, fault(api.ErrRange, -1)},
}

// TestCheckLits: R9.1: lists of literals; they may have more literals than a clause.
func TestCheckLits(t *testing.T) {
	for _, c := range []struct {
		l    []int
		vars int
		want api.Fault
	}{
		{nil, 0, fine},
		{lits(), 0, fine},
		{nil, api.MaxAtoms, fine},
		{lits(3, -1, 2), 3, fine},
		{upTo(api.MaxWide+1, 1), api.MaxAtoms, fine},
		{upTo(api.MaxAtoms, 1), api.MaxAtoms, fine},
		{upTo(api.MaxAtoms, -1), api.MaxAtoms, fine},
		{upTo(api.MaxAtoms, -1), api.MaxAtoms - 1, fault(api.ErrRange, -api.MaxAtoms)},
		{append(upTo(api.MaxAtoms, -1), 1), api.MaxAtoms, fault(api.ErrTwice, -1-api.MaxAtoms)},
		{append(upTo(api.MaxAtoms, 1), api.MaxAtoms+1), api.MaxAtoms, fault(api.ErrRange, -1-api.MaxAtoms)},
		{slices.Repeat(lits(1), 10000), 1, fault(api.ErrTwice, -2)},
	} {
		if got := cnf.CheckLits(c.l, c.vars); got != c.want {
			t.Errorf("CheckLits(%v, %d) = %v, want %v", c.l, c.vars, got, c.want)
		}
	}
	for _, s := range spoiltLists {
		if got := cnf.CheckLits(s.l, 3); got != s.want {
			t.Errorf("CheckLits(%v, 3) = %v, want %v", s.l, got, s.want)
		}
		for _, vars := range noVars {
			if got := cnf.CheckLits(s.l, vars); got != fault(api.ErrRange, 0) {
				t.Errorf("CheckLits(%v, %d) = %v", s.l, vars, got)
			}
		}
	}
}

// TestHolds: R9.2
func TestHolds(t *testing.T) {
	for _, c := range []struct {
		c    api.Cnf
		a    []bool
		want bool
	}{
		{of(2, lits(1, 2), lits(-1)), []bool{false, true}, true},
		{of(2, lits(1, 2), lits(-1)), []bool{false, false}, false},
		{of(2, lits(1, 2), lits(-1)), []bool{true, true}, false},
		{of(2, lits(1, 2), lits(-1)), []bool{true, false}, false},
		{of(0), nil, true},
		{of(0), []bool{}, true},
		{of(1), []bool{false}, true},
		{of(0, nil), nil, false},
		{of(1, lits()), []bool{true}, false},
		{of(1, lits(1), lits()), []bool{true}, false},
		{of(1, lits(1)), []bool{true}, true},
		{of(1, lits(1)), []bool{false}, false},
		{of(1, lits(-1)), []bool{true}, false},
		{of(1, lits(-1)), []bool{false}, true},
		{of(1, lits(1), lits(-1)), []bool{true}, false},
		{of(1, lits(1), lits(-1)), []bool{false}, false},
		{of(3, lits(-3, 1)), []bool{false, true, true}, false},
		{of(3, lits(-3, 1)), []bool{true, false, true}, true},
		{of(3, lits(2), lits(3), lits(-1, -2)), []bool{false, true, true}, true},
		{of(3, lits(2), lits(3), lits(-1, -2)), []bool{true, true, true}, false},
		{of(api.MaxWide, upTo(api.MaxWide, 1)), make([]bool, api.MaxWide), false},
		{of(api.MaxWide, upTo(api.MaxWide, -1)), make([]bool, api.MaxWide), true},
		{of(api.MaxWide, upTo(api.MaxWide, 1)), append(make([]bool, api.MaxWide-1), true), true},
	} {
		if got, not := cnf.Holds(c.c, c.a); got != c.want || not != fine {
			t.Errorf("Holds(%v, %v) = %v %v, want %v", c.c, c.a, got, not, c.want)
		}
	}
}

// TestHoldsOfEveryVariable: R9.2: element k-1 is the value of variable k.
func TestHoldsOfEveryVariable(t *testing.T) {
	for _, lit := range upTo(api.MaxAtoms, 1) {
		for k := range api.MaxAtoms {
			a := make([]bool, api.MaxAtoms)
			a[k] = true
			plain, not := cnf.Holds(of(api.MaxAtoms, lits(lit)), a)
			negated, notNegated := cnf.Holds(of(api.MaxAtoms, lits(-lit)), a)
			if plain != (lit == k+1) || negated == plain || not != fine || notNegated != fine {
				t.Errorf("%d where %d alone is true: %v %v, its negation: %v %v", lit, k+1, plain, not, negated, notNegated)
			}
		}
	}
}

// TestHoldsFaults: R9.2: an assignment has one element per variable.
func TestHoldsFaults(t *testing.T) {
	for _, c := range valid() {
		for n := range api.MaxAtoms + 3 {
			for _, a := range [][]bool{make([]bool, n), slices.Repeat([]bool{true}, n)} {
				got, not := cnf.Holds(c, a)
				if n == c.Vars && not != fine || n != c.Vars && (got || not != fault(api.ErrSize, -1)) {
					t.Errorf("Holds of %d variables with %d values = %v %v", c.Vars, n, got, not)
				}
			}
		}
	}
	if got, not := cnf.Holds(of(1, lits(1)), nil); got || not != fault(api.ErrSize, -1) {
		t.Errorf("Holds without an assignment = %v %v", got, not)
	}
}

// TestGiven: R9.3
func TestGiven(t *testing.T) {
	several := of(3, lits(1, 2), lits(-1), lits(3, -2, 1), lits(), lits(2, 1), lits(-1, 3))
	for _, c := range []struct {
		c    api.Cnf
		l    []int
		want api.Cnf
	}{
		{of(2, lits(1, 2), lits(-1)), lits(-1), of(2, lits(2))},
		{of(2, lits(1, 2), lits(-1)), lits(1), of(2, lits())},
		{of(2, lits(1, 2), lits(-1)), lits(2), of(2, lits(-1))},
		{of(2, lits(1, 2), lits(-1)), lits(-2), of(2, lits(1), lits(-1))},
		{of(2, lits(1, 2), lits(-1)), lits(-1, -2), of(2, lits())},
		{of(2, lits(1, 2), lits(-1)), lits(2, -1), of(2)},
		{of(2, lits(1, 2), lits(-1)), nil, of(2, lits(1, 2), lits(-1))},
		{of(0), nil, of(0)},
		{of(0, nil, nil), lits(), of(0, nil, nil)},
		{of(2), lits(1, 2), of(2)},
		{of(2, nil), lits(1, 2), of(2, nil)},
		{several, nil, several}, // neither sorted nor made unique
		{several, lits(1), of(3, lits(), lits(), lits(3))},
		{several, lits(-1), of(3, lits(2), lits(3, -2), lits(), lits(2))},
		{several, lits(2), of(3, lits(-1), lits(3, 1), lits(), lits(-1, 3))},
		{several, lits(-2), of(3, lits(1), lits(-1), lits(), lits(1), lits(-1, 3))},
		{several, lits(3), of(3, lits(1, 2), lits(-1), lits(), lits(2, 1))},
		{several, lits(-3), of(3, lits(1, 2), lits(-1), lits(-2, 1), lits(), lits(2, 1), lits(-1))},
		{several, lits(-3, 2, -1), of(3, lits(), lits())},
		{of(1, lits(1), lits(-1)), lits(1), of(1, nil)}, // both signs of a variable
		{of(1, lits(1), lits(-1)), lits(-1), of(1, nil)},
		{of(api.MaxWide, upTo(api.MaxWide, 1)), upTo(api.MaxWide, -1), of(api.MaxWide, nil)},
		{of(api.MaxWide, upTo(api.MaxWide, 1)), upTo(api.MaxWide-1, -1), of(api.MaxWide, lits(api.MaxWide))},
		{of(api.MaxWide, upTo(api.MaxWide, 1)), append(upTo(api.MaxWide-1, -1), api.MaxWide), of(api.MaxWide)},
		{of(api.MaxAtoms, times(api.MaxClauses, 1, -2)...), upTo(api.MaxAtoms, -1), of(api.MaxAtoms)},
		{of(api.MaxAtoms, times(api.MaxClauses, 1, 2)...), upTo(api.MaxAtoms, -1), of(api.MaxAtoms, times(api.MaxClauses)...)},
	} {
		if got, not := cnf.Given(c.c, c.l); !same(got, c.want) || not != fine {
			t.Errorf("Given(%v, %v) = %v %v, want %v", c.c, c.l, got, not, c.want)
		}
	}
}

// TestGivenFaults: R9.3: those of the list.
func TestGivenFaults(t *testing.T) {
	for _, c := range []api.Cnf{of(3), of(3, nil), of(3, lits(1, 2), lits(-1)), of(3, times(api.MaxClauses, 3)...)} {
		for _, s := range spoiltLists {
			if got, not := cnf.Given(c, s.l); !isZero(got) || not != s.want {
				t.Errorf("Given(%v, %v) = %v %v, want %v", c, s.l, got, not, s.want)
			}
		}
	}
	if got, not := cnf.Given(of(0), lits(1)); !isZero(got) || not != fault(api.ErrRange, -1) {
		t.Errorf("Given without variables = %v %v", got, not)
	}
}

// TestNorm: R9.4
func TestNorm(t *testing.T) {
	for _, c := range []struct{ c, want api.Cnf }{
		{of(2, lits(-1), lits(2, 1)), of(2, lits(1, 2), lits(-1))},
		{of(0), of(0)},
		{of(5), of(5)},
		{of(0, nil), of(0, nil)},
		{of(0, nil, lits(), nil), of(0, nil)},
		{of(0, times(api.MaxClauses)...), of(0, nil)},
		{of(1, lits(1), nil), of(1, nil, lits(1))},
		{of(1, lits(-1), lits(1)), of(1, lits(1), lits(-1))}, // the positive literal first
		{of(1, lits(1), lits(-1), lits(1), lits(-1)), of(1, lits(1), lits(-1))},
		{of(2, lits(2), lits(-1)), of(2, lits(-1), lits(2))}, // the smaller variable first, whatever the signs
		{of(2, lits(-2), lits(1)), of(2, lits(1), lits(-2))},
		{of(3, lits(3, -2, 1)), of(3, lits(1, -2, 3))},
		{of(3, lits(-3, 2, -1)), of(3, lits(-1, 2, -3))},
		{of(2, lits(1, 2), lits(2, 1)), of(2, lits(1, 2))},
		{of(2, lits(2, 1), lits(1, 2), lits(1), lits(2, 1)), of(2, lits(1), lits(1, 2))},
		{of(3, lits(1, 2, 3), lits(1, 2), lits(1), nil), of(3, nil, lits(1), lits(1, 2), lits(1, 2, 3))}, // a prefix first
		{of(3, lits(1, 3), lits(1, 2, 3), lits(1)), of(3, lits(1), lits(1, 2, 3), lits(1, 3))},
		{of(3, lits(1, -2, 3), lits(1, 2), lits(1, -2)), of(3, lits(1, 2), lits(1, -2), lits(1, -2, 3))},
		{of(3, lits(-1), lits(1, -2), lits(1, 3)), of(3, lits(1, -2), lits(1, 3), lits(-1))},
		{of(3, lits(-1, -2), lits(-1, 2), lits(1, -2), lits(1, 2)), of(3, lits(1, 2), lits(1, -2), lits(-1, 2), lits(-1, -2))},
		{of(11, lits(10), lits(9), lits(-11), lits(-2)), of(11, lits(-2), lits(9), lits(10), lits(-11))}, // as numbers, not as texts
		{of(2, lits(1), lits(-2), lits(2)), of(2, lits(1), lits(2), lits(-2))},
		{of(3, lits(2, 3), lits(1)), of(3, lits(1), lits(2, 3))}, // not by length
	} {
		if got, not := cnf.Norm(c.c); !same(got, c.want) || not != fine {
			t.Errorf("Norm(%v) = %v %v, want %v", c.c, got, not, c.want)
		}
	}
	backward := of(api.MaxAtoms)
	for lit := api.MaxAtoms; lit > 0; lit-- {
		backward.Clauses = append(backward.Clauses, lits(-lit), lits(lit), lits(-lit))
	}
	got, not := cnf.Norm(backward)
	for k, lit := range upTo(api.MaxAtoms, 1) {
		if len(got.Clauses) != 2*api.MaxAtoms || got.Clauses[2*k][0] != lit || got.Clauses[2*k+1][0] != -lit || not != fine {
			t.Fatalf("Norm(%v) = %v %v", backward, got, not)
		}
	}
}

// TestMemory: P1: arguments stay as they are, and results share no memory, neither with these nor among themselves.
func TestMemory(t *testing.T) {
	parts := []int{3, 1, 2, -1, 2, 1, 3, -2, 1, 7, 7, 7}
	argument := of(3, parts[0:2], parts[2:3], parts[3:5], parts[5:6], parts[6:8], parts[8:9], parts[9:9])
	list := []int{-1, 7, 7}
	given, _ := cnf.Given(argument, list[:1])
	none, _ := cnf.Given(argument, nil)
	norm, _ := cnf.Norm(argument)
	again, _ := cnf.Norm(norm)
	cnf.Holds(argument, []bool{true, false, true})
	cnf.Text(argument)
	if !slices.Equal(parts, []int{3, 1, 2, -1, 2, 1, 3, -2, 1, 7, 7, 7}) || !slices.Equal(list, []int{-1, 7, 7}) {
		t.Errorf("the arguments became %v and %v", parts, list)
	}
	read, _ := cnf.Read("p cnf 3 4\n3 1 2 0 -1 0 0\n2 1 0")
	lists := [][]int{parts, list}
	for _, c := range []api.Cnf{given, none, norm, again, read} {
		if len(c.Clauses) < 3 {
			t.Fatalf("too few clauses: %v", c)
		}
		lists = append(lists, c.Clauses...)
	}
	for i, l := range lists {
		var before [][]int
		for _, other := range lists {
			before = append(before, slices.Clone(other[:cap(other)]))
		}
		for k := range l[:cap(l)] {
			l[:cap(l)][k] = 1000 + k
		}
		for j, other := range lists {
			if j != i && !slices.Equal(other[:cap(other)], before[j]) {
				t.Errorf("%v shares memory with %v", before[i], before[j])
			}
		}
		copy(l[:cap(l)], before[i])
	}
	given.Clauses[0], none.Clauses[0], norm.Clauses[1] = nil, nil, nil
	if len(argument.Clauses[0]) != 2 || len(argument.Clauses[1]) != 1 || len(again.Clauses[1]) != 1 {
		t.Error("a formula changed with a result")
	}
}
