package simple

import (
	"slices"

	"umpirage/api"
	"umpirage/frac"
)

// number is the fraction of an OpNum.
func (m *maker) number(node int) api.Frac {
	return api.Frac{Num: m.nodes[node].N, Den: m.nodes[node].D}
}

// add is the number of the node for n, an OpAdd of a sort.
func (m *maker) add(n api.Node, sort int) int {
	if m.constants(n.Kids) {
		if sum, fault := m.sum(n.Kids); fault == (api.Fault{}) && fits(sum, sort) {
			return m.made(asNode(sum))
		}
	}
	// If all children were 0, their sum would be the result. The others alone have the sort of the
	// node, for 0 is an Int.
	isZero := func(kid int) bool { return m.is(api.OpNum)(kid) && m.nodes[kid].N == 0 }
	kids := slices.DeleteFunc(slices.Clone(n.Kids), isZero)
	if len(kids) == 1 {
		return kids[0]
	}
	return m.made(api.Node{Op: api.OpAdd, Kids: kids})
}

// sum adds numbers from left to right, or tells that a partial sum is too large.
func (m *maker) sum(nodes []int) (api.Frac, api.Fault) {
	sum, fault := api.Frac{Den: 1}, api.Fault{}
	for _, node := range nodes {
		if sum, fault = frac.Add(sum, m.number(node)); fault != (api.Fault{}) {
			break
		}
	}
	return sum, fault
}

// times is the number of the node for n, an OpTimes of a sort.
func (m *maker) times(n api.Node, sort int) int {
	factor := api.Frac{Num: n.N, Den: n.D}
	if factor == (api.Frac{Num: 1, Den: 1}) {
		return n.Kids[0]
	}
	if m.constants(n.Kids) {
		if product, fault := frac.Times(factor, m.number(n.Kids[0])); fault == (api.Fault{}) && fits(product, sort) {
			return m.made(asNode(product))
		}
	}
	return m.made(n)
}

// fits tells whether an OpNum can be the fraction f, and then has that sort.
func fits(f api.Frac, sort int) bool {
	isSmall := max(f.Num, -f.Num, f.Den) <= api.MaxWhole
	return isSmall && (f.Den == 1) == (sort == api.SortInt)
}

func asNode(f api.Frac) api.Node { return api.Node{Op: api.OpNum, N: f.Num, D: f.Den} }

// compare is the number of the node for n, an OpLess or OpMost.
func (m *maker) compare(n api.Node) int {
	l, r := n.Kids[0], n.Kids[1]
	if l == r {
		return m.truth(n.Op == api.OpMost)
	}
	if m.constants(n.Kids) { // they differ, so that both operators tell the same
		less, _ := frac.Less(m.number(l), m.number(r))
		return m.truth(less)
	}
	return m.made(n)
}
