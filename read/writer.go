package read

import (
	"umpirage/api"
)

// written is the declarations and the assertions of a well-formed query as expressions.
// They share the expressions of common nodes: written out, they can be very many.
func written(a api.Ask) []api.Sexp {
	var l []api.Sexp
	for _, d := range a.Decls {
		l = append(l, writtenDecl(d))
	}
	var nodes []api.Sexp
	for _, n := range a.Nodes {
		var kids []api.Sexp
		for _, kid := range n.Kids {
			kids = append(kids, nodes[kid])
		}
		nodes = append(nodes, writtenNode(n, kids))
	}
	for _, n := range a.Hold {
		l = append(l, list(nodes[n:n+1], holdWord))
	}
	return l
}

func writtenDecl(d api.Decl) api.Sexp {
	var args []api.Sexp
	for _, sort := range d.Args {
		args = append(args, word(sorts[sort]))
	}
	return list([]api.Sexp{word(d.Name), list(args), word(sorts[d.Sort])}, declWord)
}

// writtenNode is a node as an expression, when its children are known as such.
func writtenNode(n api.Node, kids []api.Sexp) api.Sexp {
	switch n.Op {
	case api.OpTrue, api.OpFalse:
		return word(operators[n.Op])
	case api.OpNum:
		return word(numberText(n.N, n.D))
	case api.OpWord:
		return word(bitsText(n.N, n.D))
	case api.OpName:
		if len(kids) == 0 {
			return word(n.Name)
		}
		return list(kids, n.Name)
	case api.OpTimes, api.OpWLeft:
		return list(kids, operators[n.Op], numberText(n.N, n.D))
	}
	return list(kids, operators[n.Op])
}

func word(s string) api.Sexp { return api.Sexp{Word: s} }

// list has words, and then other expressions.
func list(l []api.Sexp, words ...string) api.Sexp {
	var kids []api.Sexp
	for _, w := range words {
		kids = append(kids, word(w))
	}
	return api.Sexp{List: true, Kids: append(kids, l...)}
}
