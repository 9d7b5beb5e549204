package read

import (
	"slices"

	"umpirage/api"
)

// reader makes a query of the expressions of a text; whether the query is well formed is not its concern.
type reader struct{ query api.Ask }

// readTop adds a declaration or an assertion, or returns the code of what is wrong with it.
func (r *reader) readTop(e api.Sexp) int {
	switch {
	case isList(e, declWord, 4) && len(r.query.Hold) == 0:
		return r.readDecl(e.Kids[1], e.Kids[2], e.Kids[3])
	case isList(e, holdWord, 2):
		return r.readHold(e.Kids[1])
	}
	return api.ErrText
}

// isList tells whether an expression is a list of so many, the first one of which is a word.
func isList(e api.Sexp, word string, length int) bool {
	return len(e.Kids) == length && isWord(e.Kids[0], word)
}

func isWord(e api.Sexp, word string) bool { return !e.List && e.Word == word }

func (r *reader) readDecl(name, args, sort api.Sexp) int {
	isOther := func(arg api.Sexp) bool { return !isWord(arg, thingWord) }
	switch {
	case name.List, !args.List, sort.List, slices.ContainsFunc(args.Kids, isOther):
		return api.ErrText
	case sortOf(sort.Word) == 0:
		return api.ErrKind
	case isReserved(name.Word):
		return api.ErrName
	}
	r.query.Decls = append(r.query.Decls, api.Decl{
		Name: name.Word,
		Args: slices.Repeat([]int{api.SortThing}, len(args.Kids)),
		Sort: sortOf(sort.Word),
	})
	return api.OK
}

func (r *reader) readHold(e api.Sexp) int {
	n, good := r.nodeOf(e)
	if !good {
		return api.ErrText
	}
	r.query.Hold = append(r.query.Hold, n)
	return api.OK
}

// nodeOf is the number of the node of an expression, if this has a form of an expression of a query.
func (r *reader) nodeOf(e api.Sexp) (int, bool) {
	n, rest, good := r.head(e)
	if !good {
		return 0, false
	}
	for _, kid := range rest {
		k, good := r.nodeOf(kid)
		if !good {
			return 0, false
		}
		n.Kids = append(n.Kids, k)
	}
	return r.place(n), true
}

// place is the number of the node that equals n; if there is none, n becomes it.
func (r *reader) place(n api.Node) int {
	at := slices.IndexFunc(r.query.Nodes, func(o api.Node) bool {
		return o.Op == n.Op && o.N == n.N && o.D == n.D && o.Name == n.Name && slices.Equal(o.Kids, n.Kids)
	})
	if at < 0 {
		at = len(r.query.Nodes)
		r.query.Nodes = append(r.query.Nodes, n)
	}
	return at
}

// head is the node of an expression without its children, and the expressions of these.
func (r *reader) head(e api.Sexp) (api.Node, []api.Sexp, bool) {
	if !e.List {
		n, good := r.wordNode(e.Word)
		return n, nil, good
	}
	if len(e.Kids) == 0 || e.Kids[0].List {
		return api.Node{}, nil, false
	}
	word, rest := e.Kids[0].Word, e.Kids[1:]
	if r.isDeclared(word) {
		return api.Node{Op: api.OpName, Name: word}, rest, len(rest) > 0
	}
	n := api.Node{Op: operatorOf(word)}
	switch n.Op {
	case 0, api.OpTrue, api.OpFalse:
		return api.Node{}, nil, false
	case api.OpTimes, api.OpWLeft:
		return withNumber(n, rest)
	}
	return n, rest, true
}

// wordNode is the node of an expression that is a word.
func (r *reader) wordNode(word string) (api.Node, bool) {
	if n, good := numberOf(word); good {
		return n, true
	}
	if n, good := bitsOf(word); good {
		return n, true
	}
	switch op := operatorOf(word); {
	case op == api.OpTrue, op == api.OpFalse:
		return api.Node{Op: op}, true
	case r.isDeclared(word):
		return api.Node{Op: api.OpName, Name: word}, true
	}
	return api.Node{}, false
}

// withNumber is a node of OpTimes or OpWLeft with the number that is the first expression behind the operator;
// the others are its children.
func withNumber(n api.Node, l []api.Sexp) (api.Node, []api.Sexp, bool) {
	if len(l) == 0 || l[0].List {
		return api.Node{}, nil, false
	}
	number, good := numberOf(l[0].Word)
	n.N = number.N
	switch n.Op {
	case api.OpTimes:
		n.D = number.D
	case api.OpWLeft:
		good = good && number.D == 1
	}
	return n, l[1:], good
}

func (r *reader) isDeclared(name string) bool {
	return slices.ContainsFunc(r.query.Decls, func(d api.Decl) bool { return d.Name == name })
}
