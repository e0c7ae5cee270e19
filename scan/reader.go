package scan

import (
	"strings"

	"mullion/api"
	"mullion/letter"
)

// signs: those of two characters stand ahead of those of one, so that the first that fits is the longest.
var signs = [...]string{
	"<<", ">>", "&^", "&&", "||", "==", "!=", "<=", ">=", ":=", "<-",
	"+", "-", "*", "/", "%", "&", "|", "^", "!", "<", ">", "=",
	"(", ")", "[", "]", "{", "}", ",", ".", ":", ";",
}

// reader holds what is read of a text.
type reader struct {
	text   string
	done   int // all ahead of it is read
	tokens []api.Token
}

// read reads what begins with the character c at the place at.
func (r *reader) read(at int, c rune) api.Errno {
	rest := r.text[at:]
	switch {
	case c == '\n':
		return r.endLine(at)
	case c == '\t' || c == '\r' || c == ' ':
		return api.OK
	case strings.HasPrefix(rest, "//"):
		line, _, _ := strings.Cut(rest, "\n")
		r.done = at + len(line)
		return api.OK
	}
	t, e := first(rest, c)
	if e != api.OK {
		return e
	}
	t.At = at
	r.done = at + len(t.Text)
	return r.add(t)
}

// endLine puts a semicolon at a line's end, if the line asks for one. It is enough to look at the last token of all: one that asks for a semicolon has got it at the end of its own line.
func (r *reader) endLine(at int) api.Errno {
	if len(r.tokens) == 0 || !endsStatement(r.tokens[len(r.tokens)-1]) {
		return api.OK
	}
	return r.add(api.Token{Kind: api.KSemi, At: at})
}

// add adds a token, if there may be one more.
func (r *reader) add(t api.Token) api.Errno {
	if len(r.tokens) >= api.MaxTokens {
		return api.ErrLarge
	}
	r.tokens = append(r.tokens, t)
	return api.OK
}

// endsStatement tells whether a semicolon is put behind t at a line's end.
func endsStatement(t api.Token) bool {
	switch t.Kind {
	case api.KName, api.KInt:
		return true
	case api.KWord:
		return t.Text == "break" || t.Text == "continue" || t.Text == "return" || t.Text == "true" || t.Text == "false"
	case api.KSign:
		return t.Text == ")" || t.Text == "]" || t.Text == "}"
	}
	return false
}

// first answers the token that s, of which c is the first character, begins with, as if s stood at 0.
func first(s string, c rune) (api.Token, api.Errno) {
	switch {
	case letter.Is(c):
		return named(span(s))
	case letter.IsDigit(c):
		text := span(s)
		n, e := Number(text)
		return api.Token{Kind: api.KInt, Text: text, N: n}, e
	}
	text := longestSign(s)
	switch text {
	case "":
		return api.Token{}, api.ErrToken
	case ";":
		return api.Token{Kind: api.KSemi, Text: text}, api.OK
	}
	return api.Token{Kind: api.KSign, Text: text}, api.OK
}

// named answers the token of letters and digits that begin with a letter.
func named(text string) (api.Token, api.Errno) {
	if Word(text) {
		return api.Token{Kind: api.KWord, Text: text}, api.OK
	}
	if len(text) > api.MaxName {
		return api.Token{}, api.ErrLarge
	}
	return api.Token{Kind: api.KName, Text: text}, api.OK
}

// span answers the letters and digits that s begins with.
func span(s string) string {
	for i, c := range s {
		if !letter.Is(c) && !letter.IsDigit(c) {
			return s[:i]
		}
	}
	return s
}

// longestSign answers the longest sign that s begins with; nothing, if there is none.
func longestSign(s string) string {
	for _, g := range signs {
		if strings.HasPrefix(s, g) {
			return g
		}
	}
	return ""
}
