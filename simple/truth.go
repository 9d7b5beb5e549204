package simple

import (
	"slices"

	"umpirage/api"
)

// not is the number of the node for OpNot of a node.
func (m *maker) not(node int) int {
	switch m.nodes[node].Op {
	case api.OpTrue:
		return m.truth(false)
	case api.OpFalse:
		return m.truth(true)
	case api.OpNot:
		return m.nodes[node].Kids[0]
	}
	return m.made(api.Node{Op: api.OpNot, Kids: []int{node}})
}

// joined is the number of the node for n, an OpAnd or OpOr: the constant idle changes nothing
// there, and the constant final decides it.
func (m *maker) joined(n api.Node, idle, final int) int {
	kids := distinct(slices.DeleteFunc(m.flat(n), m.is(idle)))
	isDenial := func(kid int) bool {
		return m.is(api.OpNot)(kid) && slices.Contains(kids, m.nodes[kid].Kids[0])
	}
	switch {
	case slices.ContainsFunc(kids, m.is(final)), slices.ContainsFunc(kids, isDenial):
		return m.made(api.Node{Op: final})
	case len(kids) == 0:
		return m.made(api.Node{Op: idle})
	case len(kids) == 1:
		return kids[0]
	}
	return m.made(api.Node{Op: n.Op, Kids: kids})
}

// flat is the children of n, where those with its operator are replaced by theirs while there is room.
func (m *maker) flat(n api.Node) []int {
	kids := slices.Clone(n.Kids)
	for k := 0; k < len(kids); {
		kid := m.nodes[kids[k]]
		if kid.Op != n.Op || len(kids)-1+len(kid.Kids) > api.MaxKids {
			k++
			continue
		}
		kids = slices.Replace(kids, k, k+1, kid.Kids...)
	}
	return kids
}

// iff is the number of the node for n, an OpIff.
func (m *maker) iff(n api.Node) int {
	l, r := n.Kids[0], n.Kids[1]
	isTrue, isFalse := m.is(api.OpTrue), m.is(api.OpFalse)
	switch {
	case l == r:
		return m.truth(true)
	case isTrue(l):
		return r
	case isTrue(r):
		return l
	case isFalse(l):
		return m.not(r)
	case isFalse(r):
		return m.not(l)
	}
	return m.made(n)
}
