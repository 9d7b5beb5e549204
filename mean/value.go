package mean

import (
	"umpirage/api"
	"umpirage/frac"
)

// isValue tells whether v is a value of a sort, in its form.
func isValue(sort int, v api.Value) bool {
	if sort == api.SortArray {
		return v.Num == (api.Frac{}) && !isNoThing(v.Rest) && areCells(v.Cells, v.Rest)
	}
	return len(v.Cells) == 0 && v.Rest == 0 && isNumber(sort, v.Num)
}

// areCells tells whether the cells of an array that has rest elsewhere are in their form.
func areCells(cells []api.Cell, rest int) bool {
	last := -1
	for _, c := range cells {
		if c.At <= last || isNoThing(c.At) || isNoThing(c.It) || c.It == rest {
			return false
		}
		last = c.At
	}
	return true
}

// isNumber tells whether a fraction is a value of a sort other than Array.
func isNumber(sort int, f api.Frac) bool {
	if frac.Check(f) != (api.Fault{}) {
		return false
	}
	switch sort {
	case api.SortReal:
		return true
	case api.SortInt:
		return f.Den == 1
	}
	return f.Den == 1 && f.Num >= 0 && f.Num <= greatest(sort)
}

// greatest is the greatest value of Bool, Thing or a bit vector sort; the least one is 0.
func greatest(sort int) int {
	switch sort {
	case api.SortBool:
		return 1
	case api.SortThing:
		return api.MaxThing
	}
	return modulus(sort) - 1
}

// modulus is how many values a bit vector sort has.
func modulus(sort int) int { return 1 << (sort - api.SortWord) }

func isNoThing(n int) bool { return n < 0 || n > api.MaxThing }
