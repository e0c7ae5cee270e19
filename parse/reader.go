package parse

import (
	"slices"

	"mullion/api"
)

// reader holds the tokens of a text, and how far they are read.
type reader struct {
	tokens []api.Token
	done   int  // so many are read
	end    int  // where the text ends
	inHead bool // a Head is read, and no bracket is open in it: no struct literal may stand here
}

// part is what reads a part of a text: a method expression of reader.
type part func(r *reader) api.Node

// fault is what the reader gives up with: the place of the token that is at fault.
type fault struct {
	at int
}

// fail gives up at the token that is to be read.
func (r *reader) fail() {
	panic(fault{r.token().At})
}

// token answers the token that is to be read; at the text's end one of no Kind.
func (r *reader) token() api.Token {
	if r.isEnd() {
		return api.Token{At: r.end}
	}
	return r.tokens[r.done]
}

// isEnd tells whether all tokens are read.
func (r *reader) isEnd() bool {
	return r.done == len(r.tokens)
}

// is tells whether that word or sign is to be read. It is enough to look at the Text: no name, number or semicolon is asked for so.
func (r *reader) is(text string) bool {
	return r.token().Text == text
}

// isSemicolon tells whether a semicolon is to be read, put or written.
func (r *reader) isSemicolon() bool {
	return r.token().Kind == api.KSemi
}

// take reads a token, which has been looked at.
func (r *reader) take() api.Token {
	t := r.token()
	r.done++
	return t
}

// accept reads that word or sign, if it stands there, and tells whether it does.
func (r *reader) accept(text string) bool {
	if !r.is(text) {
		return false
	}
	r.take()
	return true
}

// need reads that word or sign, and answers its place.
func (r *reader) need(text string) int {
	if !r.is(text) {
		r.fail()
	}
	return r.take().At
}

// name reads a name.
func (r *reader) name() api.Token {
	if r.token().Kind != api.KName {
		r.fail()
	}
	return r.take()
}

// semicolon reads a semicolon.
func (r *reader) semicolon() {
	if !r.isSemicolon() {
		r.fail()
	}
	r.take()
}

// leaveOutSemicolon reads a semicolon, if one stands there.
func (r *reader) leaveOutSemicolon() {
	if r.isSemicolon() {
		r.take()
	}
}

// closing reads the sign that closes a list or a parenthesis, and a semicolon ahead of it.
func (r *reader) closing(sign string) {
	r.leaveOutSemicolon()
	r.need(sign)
}

// list reads one part or more, with commas between, and the sign that closes the list.
func (r *reader) list(read part, sign string) []api.Node {
	list := []api.Node{read(r)}
	for r.accept(",") {
		list = append(list, read(r))
	}
	r.closing(sign)
	return list
}

// listOrNothing is list where there need not be a part.
func (r *reader) listOrNothing(read part, sign string) []api.Node {
	if r.accept(sign) {
		return nil
	}
	return r.list(read, sign)
}

// lines reads parts with a semicolon behind each, which may be missing ahead of a }, up to one of the ends, which is left there.
func (r *reader) lines(read part, ends ...string) []api.Node {
	var list []api.Node
	for !slices.Contains(ends, r.token().Text) {
		list = append(list, read(r))
		if !r.is("}") {
			r.semicolon()
		}
	}
	return list
}

// within reads a part in a Head, or out of any.
func (r *reader) within(head bool, read part) api.Node {
	outside := r.inHead
	r.inHead = head
	n := read(r)
	r.inHead = outside
	return n
}
