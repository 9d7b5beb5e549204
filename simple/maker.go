package simple

import (
	"slices"

	"umpirage/api"
)

// maker has the nodes made so far. No two of them are equal, so that children are equal if they
// have the same number.
type maker struct{ nodes []api.Node }

// made is the number of a node that equals n.
func (m *maker) made(n api.Node) int {
	isEqual := func(other api.Node) bool {
		return n.Op == other.Op && n.N == other.N && n.D == other.D && n.Name == other.Name && slices.Equal(n.Kids, other.Kids)
	}
	if old := slices.IndexFunc(m.nodes, isEqual); old >= 0 {
		return old
	}
	m.nodes = append(m.nodes, n)
	return len(m.nodes) - 1
}

// truth is the number of a Boolean constant.
func (m *maker) truth(is bool) int {
	if is {
		return m.made(api.Node{Op: api.OpTrue})
	}
	return m.made(api.Node{Op: api.OpFalse})
}

// is has a function that tells whether a node has the operator op.
func (m *maker) is(op int) func(node int) bool {
	return func(node int) bool { return m.nodes[node].Op == op }
}

// constants tells whether all of such nodes are numbers or words.
func (m *maker) constants(nodes []int) bool {
	isNone := func(node int) bool { return !m.is(api.OpNum)(node) && !m.is(api.OpWord)(node) }
	return !slices.ContainsFunc(nodes, isNone)
}

// replace is the number of the node that replaces n, a node of a sort whose children are replaced already.
func (m *maker) replace(n api.Node, sort int) int {
	switch n.Op {
	case api.OpNot:
		return m.not(n.Kids[0])
	case api.OpAnd:
		return m.joined(n, api.OpTrue, api.OpFalse)
	case api.OpOr:
		return m.joined(n, api.OpFalse, api.OpTrue)
	case api.OpIff:
		return m.iff(n)
	case api.OpPick:
		return m.pick(n)
	case api.OpSame:
		return m.same(n)
	case api.OpAdd:
		return m.add(n, sort)
	case api.OpTimes:
		return m.times(n, sort)
	case api.OpLess, api.OpMost:
		return m.compare(n)
	case api.OpWNot, api.OpWAnd, api.OpWOr, api.OpWXor, api.OpWAdd, api.OpWTimes, api.OpWLess, api.OpWLeft:
		return m.word(n)
	case api.OpGet:
		return m.get(n)
	}
	return m.made(n)
}
