package mean

import (
	"slices"

	"umpirage/api"
)

// wrongMeaning is the code of what is wrong with the meaning of a declaration that is well formed.
func wrongMeaning(d api.Decl, m api.Meaning) int {
	some := func(wrong func(api.Entry) bool) bool { return slices.ContainsFunc(m.Rows, wrong) }
	switch {
	case len(m.Rows) > api.MaxThing, some(func(e api.Entry) bool { return len(e.Args) != len(d.Args) }):
		return api.ErrSize
	case some(func(e api.Entry) bool { return slices.ContainsFunc(e.Args, isNoThing) }):
		return api.ErrRange
	case twice(m.Rows):
		return api.ErrTwice
	case !isValue(d.Sort, m.Rest), some(func(e api.Entry) bool { return !isValue(d.Sort, e.To) }):
		return api.ErrSort
	}
	return api.OK
}

// twice tells whether two rows, all with equally many arguments, have the same ones.
func twice(rows []api.Entry) bool {
	seen := map[[api.MaxKids]int]bool{}
	return slices.ContainsFunc(rows, func(e api.Entry) bool {
		var args [api.MaxKids]int
		copy(args[:], e.Args)
		before := seen[args]
		seen[args] = true
		return before
	})
}

// told is the value, in memory of its own, to which a meaning maps arguments.
func told(m api.Meaning, args []api.Frac) api.Value {
	v := m.Rest
	isRow := func(e api.Entry) bool {
		return slices.EqualFunc(e.Args, args, func(thing int, f api.Frac) bool { return thing == f.Num })
	}
	if at := slices.IndexFunc(m.Rows, isRow); at >= 0 {
		v = m.Rows[at].To
	}
	v.Cells = append([]api.Cell(nil), v.Cells...)
	return v
}
