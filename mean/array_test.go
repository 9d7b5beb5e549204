package mean_test

import (
	"testing"

	"umpirage/api"
)

// puts is a query that puts pairs, a thing and what is to be there, into an array one after another, and the world of these names.
func puts(start api.Value, pairs ...[2]int) (api.Ask, api.World) {
	a := api.Ask{Decls: []api.Decl{decl("start", api.SortArray, 0)}, Nodes: []api.Node{named("start")}}
	w := api.World{Means: []api.Meaning{constant(start)}}
	thing := func(n int) int {
		name := "t" + string(rune('A'+len(a.Decls)))
		a.Decls = append(a.Decls, decl(name, api.SortThing, 0))
		w.Means = append(w.Means, constant(whole(n)))
		a.Nodes = append(a.Nodes, named(name))
		return len(a.Nodes) - 1
	}
	before := 0
	for _, p := range pairs {
		at, it := thing(p[0]), thing(p[1])
		a.Nodes = append(a.Nodes, node(api.OpPut, before, at, it))
		before = len(a.Nodes) - 1
	}
	return a, w
}

// TestPut: R5.3: arrays after one or more puts, in their form.
func TestPut(t *testing.T) {
	for _, c := range []struct {
		what  string
		start api.Value
		pairs [][2]int
		want  api.Value
	}{
		{"into an empty one", array(0), [][2]int{{3, 4}}, array(0, 3, 4)},
		{"what is there anyway", array(4), [][2]int{{3, 4}}, array(4)},
		{"the same cell", array(0, 3, 4), [][2]int{{3, 4}}, array(0, 3, 4)},
		{"another value", array(0, 3, 4), [][2]int{{3, 5}}, array(0, 3, 5)},
		{"Rest into a cell", array(1, 3, 4), [][2]int{{3, 1}}, array(1)},
		{"Rest into the first cell", array(1, 3, 4, 5, 6), [][2]int{{3, 1}}, array(1, 5, 6)},
		{"Rest into the last cell", array(1, 3, 4, 5, 6), [][2]int{{5, 1}}, array(1, 3, 4)},
		{"Rest into a middle cell", array(1, 3, 4, 5, 6, 7, 8), [][2]int{{5, 1}}, array(1, 3, 4, 7, 8)},
		{"Rest between cells", array(1, 3, 4, 5, 6), [][2]int{{4, 1}}, array(1, 3, 4, 5, 6)},
		{"ahead of all", array(1, 3, 4, 5, 6), [][2]int{{0, 2}}, array(1, 0, 2, 3, 4, 5, 6)},
		{"between", array(1, 3, 4, 5, 6), [][2]int{{4, 2}}, array(1, 3, 4, 4, 2, 5, 6)},
		{"behind all", array(1, 3, 4, 5, 6), [][2]int{{things, things}}, array(1, 3, 4, 5, 6, things, things)},
		{"another one in the middle", array(1, 3, 4, 5, 6, 7, 8), [][2]int{{5, 0}}, array(1, 3, 4, 5, 0, 7, 8)},
		{"the place of another value", array(7, 3, 4), [][2]int{{4, 3}}, array(7, 3, 4, 4, 3)},
		{"twice at one place", array(0), [][2]int{{3, 4}, {3, 5}}, array(0, 3, 5)},
		{"there and back", array(0, 1, 1), [][2]int{{3, 4}, {3, 0}}, array(0, 1, 1)},
		{"in falling order", array(0), [][2]int{{3, 4}, {2, 5}, {1, 6}, {0, 7}}, array(0, 0, 7, 1, 6, 2, 5, 3, 4)},
		{"all cells away", array(2, 0, 1, things, 1), [][2]int{{things, 2}, {0, 2}}, array(2)},
		{"into a full one", api.Value{Cells: cellsOf(things+1, 0, 7)}, [][2]int{{500, 7}}, api.Value{Cells: cellsOf(things+1, 0, 7)}},
		{"the last cell of a full one", api.Value{Cells: cellsOf(things, 0, 7)}, [][2]int{{things, 7}}, api.Value{Cells: cellsOf(things+1, 0, 7)}},
		{"out of a full one", api.Value{Cells: cellsOf(things+1, 0, 7)}, [][2]int{{things, 0}}, api.Value{Cells: cellsOf(things, 0, 7)}},
	} {
		a, w := puts(c.start, c.pairs...)
		last(t, c.what, a, w, c.want)
	}
}

// TestGet: R5.3: what an array has at every place, also after a put.
func TestGet(t *testing.T) {
	start := array(9, 0, 5, 3, 6, 4, 7, things, 8)
	for at := range things + 1 {
		want := map[int]int{0: 5, 3: 6, 4: 7, things: 8}
		tell := func(at int) api.Value {
			if it, known := want[at]; known {
				return whole(it)
			}
			return whole(9)
		}
		a, w := puts(start, [2]int{at, 1}, [2]int{3, 2})
		a.Nodes = append(a.Nodes, node(api.OpGet, 0, 1), node(api.OpGet, 3, 1), node(api.OpGet, 6, 1), node(api.OpGet, 6, 4), node(api.OpGet, 3, 4), node(api.OpGet, 0, 4))
		before, three := tell(at), tell(3)
		want[at] = 1
		then, threeThen := tell(at), tell(3)
		want[3] = 2
		last(t, "get", a, w, before, then, tell(at), tell(3), threeThen, three)
	}
}

// TestArraysAreCopied: R5.3, P1: an array is a value of its own wherever it stands.
func TestArraysAreCopied(t *testing.T) {
	a := api.Ask{Decls: []api.Decl{decl("a", api.SortArray, 0), decl("b", api.SortArray, 0), decl("x", api.SortThing, 0)},
		Nodes: []api.Node{named("a"), named("a"), named("b"), named("b"), named("x"), node(api.OpPut, 0, 4, 4), node(api.OpPut, 0, 4, 4), node(api.OpPut, 5, 4, 4)}}
	cells := make([]api.Cell, 2, 10) // room behind the cells is not used
	cells[0], cells[1] = api.Cell{At: 1, It: 2}, api.Cell{At: 2, It: 3}
	v := api.Value{Cells: cells}
	w := api.World{Means: []api.Meaning{constant(v), table(array(1), entry(v)), constant(whole(7))}}
	last(t, "arrays", a, w, v, v, v, v, whole(7), array(0, 1, 2, 2, 3, 7, 7), array(0, 1, 2, 2, 3, 7, 7), array(0, 1, 2, 2, 3, 7, 7))
	if cells[:3][2] != (api.Cell{}) {
		t.Errorf("behind the cells is %v", cells[:3][2])
	}
}
