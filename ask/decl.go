package ask

import (
	"slices"

	"umpirage/api"
)

// wrongDecl is the code of what is wrong with the declaration at a position, of those that stand there.
func wrongDecl(decls []api.Decl, at int) int {
	d := decls[at]
	switch {
	case !isName(d.Name):
		return api.ErrName
	case declared(decls[:at], d.Name) >= 0:
		return api.ErrTwice
	case len(d.Args) > api.MaxKids:
		return api.ErrSize
	case !isSort(d.Sort), !every(d.Args, isThing), d.Sort == api.SortArray && len(d.Args) > 0:
		return api.ErrKind
	}
	return api.OK
}

// declared is the position of the declaration of a name, or -1.
func declared(decls []api.Decl, name string) int {
	return slices.IndexFunc(decls, func(d api.Decl) bool { return d.Name == name })
}

func isName(s string) bool {
	if s == "" || len(s) > api.MaxName || isDigit(s[0]) {
		return false
	}
	for i := range len(s) {
		if !isLetter(s[i]) && !isDigit(s[i]) {
			return false
		}
	}
	return true
}

// isLetter tells whether a byte may begin a name.
func isLetter(c byte) bool {
	return c >= 'a' && c <= 'z' || c >= 'A' && c <= 'Z' || c == '_'
}

func isDigit(c byte) bool { return c >= '0' && c <= '9' }
