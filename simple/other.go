package simple

import (
	"umpirage/api"
	"umpirage/words"
)

// pick is the number of the node for n, an OpPick.
func (m *maker) pick(n api.Node) int {
	test, yes, no := n.Kids[0], n.Kids[1], n.Kids[2]
	switch {
	case m.is(api.OpTrue)(test), yes == no:
		return yes
	case m.is(api.OpFalse)(test):
		return no
	}
	return m.made(n)
}

// same is the number of the node for n, an OpSame.
func (m *maker) same(n api.Node) int {
	switch {
	case n.Kids[0] == n.Kids[1]:
		return m.truth(true)
	case m.constants(n.Kids): // equal ones would be one node
		return m.truth(false)
	}
	return m.made(n)
}

// get is the number of the node for n, an OpGet.
func (m *maker) get(n api.Node) int {
	array := m.nodes[n.Kids[0]]
	if array.Op == api.OpPut && array.Kids[1] == n.Kids[1] {
		return array.Kids[2]
	}
	return m.made(n)
}

// word is the number of the node for n, an operation on bit vectors.
func (m *maker) word(n api.Node) int {
	if n.Op == api.OpWLeft && n.N == 0 {
		return n.Kids[0]
	}
	if !m.constants(n.Kids) {
		return m.made(n)
	}
	var of []int
	for _, kid := range n.Kids {
		of = append(of, m.nodes[kid].N)
	}
	bits := m.nodes[n.Kids[0]].D
	w, _ := words.Do(n.Op, bits, of, n.N)
	if n.Op == api.OpWLess {
		return m.truth(w == 1)
	}
	return m.made(api.Node{Op: api.OpWord, N: w, D: bits})
}
