package mean

import (
	"cmp"
	"slices"

	"umpirage/api"
)

// get is the thing to which an array maps a thing.
func get(array api.Value, at int) int {
	if i, found := find(array.Cells, at); found {
		return array.Cells[i].It
	}
	return array.Rest
}

// put is a new array that maps one thing to it, and else is as an array.
func put(array api.Value, at, it int) api.Value {
	ahead, found := find(array.Cells, at)
	behind := ahead
	if found {
		behind++
	}
	cells := append([]api.Cell(nil), array.Cells[:ahead]...)
	if it != array.Rest {
		cells = append(cells, api.Cell{At: at, It: it})
	}
	return api.Value{Cells: append(cells, array.Cells[behind:]...), Rest: array.Rest}
}

// find is where the cell of a thing is, or would be, and whether there is one.
func find(cells []api.Cell, at int) (int, bool) {
	return slices.BinarySearchFunc(cells, at, func(c api.Cell, at int) int { return cmp.Compare(c.At, at) })
}
