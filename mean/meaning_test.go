package mean_test

import (
	"math"
	"slices"
	"strconv"
	"testing"

	"umpirage/api"
)

// far are numbers at the limits of int.
var far = []int{math.MinInt, math.MinInt + 1, math.MaxInt, 1 << 32, -1 << 32}

// wrongFractions are no fractions that package frac takes.
func wrongFractions() []api.Value {
	l := []api.Value{num(0, 0), num(0, 2), num(0, -1), num(2, 4), num(1, 0), num(1, -2), num(-1, -1), num(3, 3), num(-6, 4),
		num(1, top+1), num(top+1, 1), num(-top-1, 1), num(top+1, 2), num(top, top), num(0, top)}
	for _, n := range far {
		l = append(l, num(n, 1), num(1, n), num(n, n))
	}
	return l
}

// furnished is v with what only an array may have.
func furnished(v api.Value) []api.Value {
	cells, rest := v, v
	cells.Cells = []api.Cell{{At: 0, It: 1}}
	l := []api.Value{cells}
	for _, n := range []int{1, -1, things, math.MinInt} {
		rest.Rest = n
		l = append(l, rest)
	}
	return l
}

// upTo are values and others of a sort whose values are from 0 to a greatest one.
func upTo(greatest int) (good, bad []api.Value) {
	good = []api.Value{whole(0), whole(1), whole(greatest / 2), whole(greatest - 1), whole(greatest), {Num: api.Frac{Den: 1}, Cells: []api.Cell{}}}
	bad = append(wrongFractions(), whole(-1), whole(greatest+1), whole(top), whole(-top), num(1, 2), num(greatest, top), num(-1, 3))
	return good, append(bad, furnished(whole(1))...)
}

// cellsOf are n cells from a thing on.
func cellsOf(n, from, it int) []api.Cell {
	var l []api.Cell
	for i := range n {
		l = append(l, api.Cell{At: from + i, It: it})
	}
	return l
}

func arrays() (good, bad []api.Value) {
	good = []api.Value{{}, array(things), array(5), array(0, 0, 1), array(1, 0, 0), array(0, 3, 4, 4, 4, things, things),
		array(things, 0, things-1, things, 0), {Cells: []api.Cell{}}, {Cells: cellsOf(things+1, 0, 7)}, {Rest: 7, Cells: cellsOf(things, 1, 8)}}
	bad = []api.Value{whole(0), whole(1), num(0, 2), {Num: api.Frac{Num: 1}}, {Num: api.Frac{Den: 1}, Cells: cellsOf(1, 0, 1)},
		array(-1), array(things + 1), array(math.MinInt), array(math.MaxInt), array(-1, 0, 1), array(things+1, 0, 1),
		array(0, -1, 1), array(0, things+1, 1), array(0, 0, 1, things+1, 1), array(0, math.MinInt, 1), array(0, math.MaxInt, 1),
		array(0, 0, -1), array(0, 0, things+1), array(0, things, math.MaxInt), array(0, 1, math.MinInt),
		array(0, 0, 0), array(3, 5, 3), array(3, 1, 2, 2, 3, 3, 4), array(3, 1, 2, 2, 3), array(0, 1, 2, 2, 2, 3, 0),
		array(0, 1, 2, 1, 2), array(0, 1, 2, 1, 3), array(0, 2, 1, 1, 1), array(0, 0, 1, 2, 1, 1, 1), array(0, 1, 1, 2, 1, 2, 2),
		{Cells: cellsOf(things+2, 0, 7)}, {Cells: cellsOf(things+1, 1, 7)}, {Cells: cellsOf(things+1, 0, 7), Rest: 7},
		{Cells: append(cellsOf(things+1, 0, 7), cellsOf(1, things, 7)...)}}
	return good, bad
}

// kinds are the sorts with values, and with others that are none of them.
func kinds() map[int][2][]api.Value {
	out := map[int][2][]api.Value{}
	add := func(sort int, good, bad []api.Value) { out[sort] = [2][]api.Value{good, bad} }
	good, bad := upTo(1)
	add(api.SortBool, good, bad)
	good, bad = upTo(things)
	add(api.SortThing, good, bad)
	for b := 1; b <= api.MaxBits; b++ {
		good, bad = upTo(1<<b - 1)
		add(api.SortWord+b, good, bad)
	}
	bad = append(wrongFractions(), furnished(whole(0))...)
	good = []api.Value{whole(0), whole(-1), whole(2), whole(top), whole(-top), whole(top - 1)}
	add(api.SortInt, good, append(bad, num(1, 2), num(-top, 3), num(1, top)))
	add(api.SortReal, append(good, num(1, 2), num(-top, 3), num(1, top), num(top, top-1), num(1-top, top)), append(bad, furnished(num(1, 2))...))
	good, bad = arrays()
	add(api.SortArray, good, bad)
	return out
}

// TestValuesOfSorts: R5.1, R5.2: what is a value of a sort, as Rest or in a row.
func TestValuesOfSorts(t *testing.T) {
	for sort, l := range kinds() {
		for code, values := range map[int][]api.Value{api.OK: l[0], api.ErrSort: l[1]} {
			for _, v := range values {
				asConstant(t, sort, v, l[0][0], code)
				if sort != api.SortArray {
					asFunction(t, sort, v, l[0][0], code)
				}
			}
		}
	}
}

// at is a fault in a place, or none.
func at(code, place int) api.Fault {
	if code == api.OK {
		return fine
	}
	return fault(code, place)
}

// asConstant has v as the value of the first of two constants, of the second one, and in a row without arguments.
func asConstant(t *testing.T, sort int, v, good api.Value, code int) {
	t.Helper()
	a, w := names([]int{sort, sort}, v, good)
	run(t, "of the first name", a, w, at(code, 0))
	a, w = names([]int{sort, sort}, good, v)
	run(t, "of the second name", a, w, at(code, 1))
	w.Means[1] = table(good, entry(v))
	run(t, "in a row", a, w, at(code, 1))
	w.Means[1] = table(v, entry(good))
	run(t, "beside a row", a, w, at(code, 1))
}

// asFunction has v as the value of a function, elsewhere and in the first, second and last row.
func asFunction(t *testing.T, sort int, v, good api.Value, code int) {
	t.Helper()
	a := api.Ask{Decls: []api.Decl{decl("p", api.SortBool, 0), decl("f", sort, 2)}}
	for place := range 4 {
		values := []api.Value{good, good, good, good}
		values[place] = v
		m := table(values[3], entry(values[0], 0, 0), entry(values[1], 0, things), entry(values[2], 3, 2))
		run(t, "of a function", a, api.World{Means: []api.Meaning{constant(whole(1)), m}}, at(code, 1))
	}
}

// rows are n different rows with two arguments.
func rows(n int) []api.Entry {
	var l []api.Entry
	for i := range n {
		l = append(l, entry(whole(1), i%40, i/40))
	}
	return l
}

// TestRows: R5.2: the rows of a function.
func TestRows(t *testing.T) {
	yes := whole(1)
	full := rows(things)
	for _, c := range []struct {
		what string
		args int
		rows []api.Entry
		want int
	}{
		{"no rows", 2, nil, api.OK},
		{"as many rows as there may be", 2, full, api.OK},
		{"one row more", 2, rows(things + 1), api.ErrSize},
		{"many more rows", 2, rows(3 * things), api.ErrSize},
		{"a row less, and one that is wrong", 2, append(rows(things-1), entry(yes, 1)), api.ErrSize},
		{"a row too short", 2, []api.Entry{entry(yes, 1, 2), entry(yes, 1)}, api.ErrSize},
		{"a row too long", 2, []api.Entry{entry(yes, 1, 2, 3), entry(yes, 1, 2)}, api.ErrSize},
		{"a row without arguments", 1, []api.Entry{entry(yes)}, api.ErrSize},
		{"a row of a constant", 0, []api.Entry{entry(yes)}, api.OK},
		{"a row of a constant, with an argument", 0, []api.Entry{entry(yes, 1)}, api.ErrSize},
		{"two rows of a constant", 0, []api.Entry{entry(yes), entry(whole(0))}, api.ErrTwice},
		{"too many rows of a constant", 0, slices.Repeat([]api.Entry{entry(yes)}, things+1), api.ErrSize},
		{"eight arguments", 8, []api.Entry{entry(yes, 0, 0, 0, 0, 0, 0, 0, 0), entry(yes, 0, 0, 0, 0, 0, 0, 0, 1), entry(yes, 1, 0, 0, 0, 0, 0, 0, 0)}, api.OK},
		{"nine arguments", 8, []api.Entry{entry(yes, 0, 0, 0, 0, 0, 0, 0, 0, 0)}, api.ErrSize},
		{"seven arguments", 8, []api.Entry{entry(yes, 0, 0, 0, 0, 0, 0, 0)}, api.ErrSize},
		{"eight arguments, twice", 8, []api.Entry{entry(yes, 1, 2, 3, 4, 5, 6, 7, 8), entry(yes, 1, 2, 3, 4, 5, 6, 7, 9), entry(yes, 1, 2, 3, 4, 5, 6, 7, 8)}, api.ErrTwice},
		{"the least and the greatest things", 2, []api.Entry{entry(yes, 0, things), entry(yes, things, 0), entry(yes, 0, 0), entry(yes, things, things)}, api.OK},
		{"an argument below 0", 2, []api.Entry{entry(yes, 1, 2), entry(yes, 1, -1)}, api.ErrRange},
		{"an argument below 0 in the first place", 2, []api.Entry{entry(yes, -1, 1), entry(yes, 1, 2)}, api.ErrRange},
		{"an argument past the last thing", 2, []api.Entry{entry(yes, things+1, 1)}, api.ErrRange},
		{"an argument past the last thing in the second place", 2, []api.Entry{entry(yes, 1, 1), entry(yes, 2, things+1)}, api.ErrRange},
		{"the least int", 1, []api.Entry{entry(yes, math.MinInt)}, api.ErrRange},
		{"the greatest int", 1, []api.Entry{entry(yes, math.MaxInt)}, api.ErrRange},
		{"arguments in another order", 2, []api.Entry{entry(yes, 1, 2), entry(yes, 2, 1), entry(yes, 12, 0), entry(yes, 1, 20)}, api.OK},
		{"rows twice", 2, []api.Entry{entry(yes, 1, 2), entry(yes, 1, 2)}, api.ErrTwice},
		{"rows twice, with other values", 1, []api.Entry{entry(yes, 7), entry(yes, 8), entry(whole(0), 7)}, api.ErrTwice},
		{"the first row at the end", 2, append(rows(things-1), entry(yes, 0, 0)), api.ErrTwice},
		{"a row that tells what Rest does", 1, []api.Entry{entry(whole(0), 3)}, api.OK},
	} {
		a := api.Ask{Decls: []api.Decl{decl("first", api.SortThing, 1), decl("f", api.SortBool, c.args)}}
		w := api.World{Means: []api.Meaning{table(whole(3), entry(whole(4), 4)), table(whole(0), c.rows...)}}
		run(t, c.what, a, w, at(c.want, 1))
	}
}

// spoilt are rows of two arguments with an error, in the order of the chapter, and the codes of these errors.
func spoilt() ([]api.Entry, []int) {
	return []api.Entry{entry(whole(0), 1), entry(whole(0), 1, -1), entry(whole(0), 5, 5), entry(whole(9), 2, 2)},
		[]int{api.ErrSize, api.ErrRange, api.ErrTwice, api.ErrSort}
}

// TestErrorsInOrder: R5.2: of several errors of one meaning, or of several ones, the first one is returned.
func TestErrorsInOrder(t *testing.T) {
	wrong, codes := spoilt()
	a := api.Ask{Decls: []api.Decl{decl("e", api.SortBool, 2), decl("f", api.SortBool, 2), decl("g", api.SortBool, 2)}}
	good := table(whole(0), entry(whole(1), 5, 5))
	meaning := func(errors int) (api.Meaning, int) {
		m, code := good, api.OK
		m.Rows = slices.Clone(m.Rows)
		for i := len(wrong) - 1; i >= 0; i-- {
			if errors>>i&1 == 1 {
				m.Rows = append(m.Rows, wrong[i])
				code = codes[i]
			}
		}
		return m, code
	}
	for one := range 16 {
		for other := range 16 {
			m, code := meaning(one)
			o, otherCode := meaning(other)
			slices.Reverse(o.Rows)
			want := at(code, 0)
			if code == api.OK {
				want = at(otherCode, 2)
			}
			run(t, "errors", a, api.World{Means: []api.Meaning{m, good, o}}, want)
			run(t, "errors and one meaning more", a, api.World{Means: []api.Meaning{m, good, o, good}}, fault(api.ErrSize, 0))
			run(t, "errors and one meaning less", a, api.World{Means: []api.Meaning{m, o}}, fault(api.ErrSize, 0))
		}
	}
}

// TestErrorsOfRest: R5.2: Rest is checked behind the rows.
func TestErrorsOfRest(t *testing.T) {
	a := api.Ask{Decls: []api.Decl{decl("e", api.SortBool, 1), decl("f", api.SortBool, 1)}}
	bad := whole(2)
	for _, c := range []struct {
		first, second api.Meaning
		want          api.Fault
	}{
		{constant(bad), constant(whole(0)), fault(api.ErrSort, 0)},
		{constant(whole(1)), constant(bad), fault(api.ErrSort, 1)},
		{constant(bad), table(whole(0), entry(whole(0))), fault(api.ErrSort, 0)},
		{table(bad, entry(whole(0))), constant(bad), fault(api.ErrSize, 0)},
		{table(bad, entry(whole(0), -1)), constant(bad), fault(api.ErrRange, 0)},
		{table(bad, entry(whole(0), 1), entry(whole(0), 1)), constant(bad), fault(api.ErrTwice, 0)},
		{table(bad, entry(whole(0), 1), entry(whole(0), 2)), constant(bad), fault(api.ErrSort, 0)},
		{api.Meaning{}, table(bad, entry(whole(0), 1), entry(whole(0), 1)), fault(api.ErrSort, 0)},
		{constant(whole(0)), api.Meaning{}, fault(api.ErrSort, 1)},
	} {
		run(t, "Rest", a, api.World{Means: []api.Meaning{c.first, c.second}}, c.want)
	}
	many := table(bad, slices.Repeat([]api.Entry{entry(bad, -1, 3)}, things+1)...)
	run(t, "all errors", a, api.World{Means: []api.Meaning{constant(whole(0)), many}}, fault(api.ErrSize, 1))
}

// TestNumberOfMeanings: R5.2: one meaning for each declaration.
func TestNumberOfMeanings(t *testing.T) {
	for decls := range 4 {
		a, _ := names(slices.Repeat([]int{api.SortBool}, decls), slices.Repeat([]api.Value{whole(0)}, decls)...)
		for means := range 5 {
			w := api.World{Means: slices.Repeat([]api.Meaning{constant(whole(1))}, means)}
			want := fault(api.ErrSize, 0)
			if means == decls {
				want = fine
			}
			run(t, "meanings", a, w, want)
		}
	}
	var a api.Ask
	for i := range api.MaxDecls {
		a.Decls = append(a.Decls, decl("n"+strconv.Itoa(i), api.SortBool, 0))
	}
	a.Nodes = []api.Node{named("n0"), named("n" + strconv.Itoa(api.MaxDecls-1))}
	w := api.World{Means: slices.Repeat([]api.Meaning{constant(whole(1))}, api.MaxDecls)}
	w.Means[0] = constant(whole(0))
	last(t, "as many names as there may be", a, w, whole(0), whole(1))
	w.Means = append(w.Means, constant(whole(1)))
	run(t, "one meaning more", a, w, fault(api.ErrSize, 0))
}

// TestFunctions: R5.1, R5.3: to what a function maps its arguments.
func TestFunctions(t *testing.T) {
	a := api.Ask{Decls: []api.Decl{decl("x", api.SortThing, 0), decl("y", api.SortThing, 0), decl("f", api.SortThing, 2),
		decl("p", api.SortBool, 1), decl("r", api.SortReal, 2), decl("w", api.SortWord+8, 3), decl("i", api.SortInt, 8)}}
	w := api.World{Means: []api.Meaning{
		constant(whole(3)),
		table(whole(9), entry(whole(4))), // a row without arguments is all of a constant
		table(whole(things), entry(whole(4), 3, 4), entry(whole(3), 4, 3), entry(whole(0), 4, 4)),
		table(whole(1), entry(whole(0), 4), entry(whole(1), 3)),
		table(num(-7, 2), entry(num(1, 3), 3, things), entry(num(1, 4), things, 3)),
		table(whole(17), entry(whole(255), 3, 4, 3), entry(whole(1), 3, 3, 4)),
		table(whole(-5), entry(whole(6), 3, 4, 3, 4, 3, 4, 3, 4), entry(whole(7), 3, 4, 3, 4, 3, 4, 3, 3)),
	}}
	a.Nodes = []api.Node{named("x"), named("y"), named("f", 0, 1), named("f", 1, 0), named("f", 1, 1), named("f", 0, 0),
		named("f", 2, 2), named("p", 0), named("p", 1), named("p", 5), named("r", 0, 5), named("r", 5, 0), named("r", 0, 0),
		named("w", 0, 1, 0), named("w", 0, 0, 1), named("w", 1, 0, 0),
		named("i", 0, 1, 0, 1, 0, 1, 0, 1), named("i", 0, 1, 0, 1, 0, 1, 0, 0), named("i", 1, 1, 0, 1, 0, 1, 0, 0)}
	last(t, "functions", a, w, whole(3), whole(4), whole(4), whole(3), whole(0), whole(things), whole(0),
		whole(1), whole(0), whole(1), num(1, 3), num(1, 4), num(-7, 2), whole(255), whole(1), whole(17), whole(6), whole(7), whole(-5))
}

// TestFullFunction: R5.3: every row of a function with as many rows as there may be.
func TestFullFunction(t *testing.T) {
	a := api.Ask{Decls: []api.Decl{decl("x", api.SortThing, 0), decl("f", api.SortThing, 1)}, Nodes: []api.Node{named("x"), named("f", 0)}}
	m := constant(whole(0))
	for i := range things {
		m.Rows = append(m.Rows, entry(whole(things-i), (i*7)%things))
	}
	for i := range things {
		last(t, "a row", a, api.World{Means: []api.Meaning{constant(whole((i * 7) % things)), m}}, whole(things-i))
	}
	last(t, "no row", a, api.World{Means: []api.Meaning{constant(whole(things)), m}}, whole(0))
}
