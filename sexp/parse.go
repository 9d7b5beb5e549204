package sexp

import (
	"strings"

	"umpirage/api"
)

// Parse is the list of the expressions of which a text consists.
func Parse(text string) ([]api.Sexp, api.Fault) {
	if len(text) > api.MaxText {
		return nil, api.Fault{Code: api.ErrMany}
	}
	p := parser{text: text, open: [][]api.Sexp{nil}}
	for p.at < len(text) {
		if code := p.step(); code != api.OK {
			return nil, api.Fault{Code: code, At: p.at}
		}
	}
	if p.depth() > 0 {
		return nil, api.Fault{Code: api.ErrText, At: len(text)}
	}
	return p.open[0], api.Fault{}
}

// parser reads a text from left to right.
type parser struct {
	text string
	at   int
	open [][]api.Sexp // what was read of the top level, and then of each list that is not closed yet
}

// depth is that of an expression at the position of the parser.
func (p *parser) depth() int { return len(p.open) - 1 }

// step reads what stands at the position, and moves behind it; or it stays there and returns the code of what is wrong.
func (p *parser) step() int {
	switch c := p.text[p.at]; {
	case c == '(':
		return p.begin()
	case c == ')':
		return p.end()
	case c == ';':
		p.comment()
	case inWord(c):
		return p.word()
	case c == ' ', c == '\t', c == '\n', c == '\r':
		p.at++
	default:
		return api.ErrText
	}
	return api.OK
}

// begin reads the beginning of a list.
func (p *parser) begin() int {
	if p.depth() > api.MaxNest {
		return api.ErrMuch
	}
	p.open = append(p.open, nil)
	p.at++
	return api.OK
}

// end reads the end of a list.
func (p *parser) end() int {
	last := p.depth()
	if last == 0 {
		return api.ErrText
	}
	kids := p.open[last]
	p.open = p.open[:last]
	p.add(api.Sexp{List: true, Kids: kids})
	p.at++
	return api.OK
}

// comment reads up to the newline that ends a comment, or to the end of the text.
func (p *parser) comment() {
	length := strings.IndexByte(p.text[p.at:], '\n')
	if length < 0 {
		length = len(p.text) - p.at
	}
	p.at += length
}

// word reads a word.
func (p *parser) word() int {
	end := wordEnd(p.text, p.at)
	if end-p.at > api.MaxWord {
		return api.ErrName
	}
	if p.depth() > api.MaxNest {
		return api.ErrMuch
	}
	// A copy, so that no word holds the memory of the whole text.
	p.add(api.Sexp{Word: strings.Clone(p.text[p.at:end])})
	p.at = end
	return api.OK
}

// add puts an expression into the innermost list that is open.
func (p *parser) add(e api.Sexp) {
	last := p.depth()
	p.open[last] = append(p.open[last], e)
}
