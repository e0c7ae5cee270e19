package parse_test

import (
	"strconv"
	"strings"

	"mullion/api"
)

// The chapter's grammar, with what it tells of semicolons, of a default and of heads written out. It tells which tokens can go on, by charts (Earley), and nothing of trees: how operators bind is left out.
//
// The expressions are told apart by what they are for P5.2: a Call, a Receipt, a Place (nodes 30, 35, 36), or an Other. No token is a dead: what stands ahead of one has been read, and is at fault as a whole. No token is a never, either. A nomake is any name but make.
const grammar = `
ProgramText = [ Declaration { ";" Declaration } [ ";" ] ]
ExprText = Expr [ ";" ]
StmtText = Stmt [ ";" ]
TypeText = Type [ ";" ]
Declaration = "type" name "struct" "{" [ Field { ";" Field } [ ";" ] ] "}" | "func" name [ "[" Tparam { "," Tparam } [ ";" ] "]" ] Sig Block
Field = name Type
Tparam = name ( "any" | "comparable" | "integer" )
Sig = "(" [ Field { "," Field } [ ";" ] ] ")" [ Type ]
Type = name | ListType | "func" "(" [ Type { "," Type } [ ";" ] ] ")" [ Type ]
ListType = "[" "]" Type | "chan" Type
Block = "{" [ Stmt { ";" Stmt } [ ";" ] ] "}"
Stmt = Block | "var" name Type | "if" If | "for" HeadExpr Block | "break" | "continue" | "return" [ Expr ] | ( "go" | "defer" ) ( Call | NoCall ) | "select" "{" Cases "}" | Simple
If = HeadExpr Block [ "else" ( "if" If | Block ) ]
Cases = { Case } [ LastCase ] | { Case } Default { Case } [ LastCase ] | { Case } LastDefault
Case = CaseHead ":" { Stmt ";" }
LastCase = CaseHead ":" { Stmt ";" } Stmt
Default = "default" ":" { Stmt ";" }
LastDefault = "default" ":" { Stmt ";" } Stmt
CaseHead = "case" ( [ name ":=" ] "<-" Unary | Receipt | Expr "<-" Expr )
Simple = name ":=" Expr | Call | Receipt | NoStmt | Place "=" Expr | NoLeft | Expr "<-" Expr
NoCall = ( Receipt | Place | Other ) dead
NoStmt = ( Place | Other ) dead
NoLeft = ( Call | Receipt | Other ) "=" Expr dead
`

// The rules that also stand in a head: there with no Literal but within brackets.
const expressions = `
Expr = Call | Receipt | Place | Other
Call = Callee "(" [ Expr { "," Expr } [ ";" ] ] ")" | "(" Call [ ";" ] ")"
Receipt = "<-" Unary | "(" Receipt [ ";" ] ")"
Place = name | Piece | "(" Place [ ";" ] ")"
Other = Value | ( "-" | "^" | "!" ) Unary | Unary Op Unary { Op Unary } | "(" Other [ ";" ] ")"
Callee = nomake | Unnamed
Piece = Primary "." name | Primary "[" Arg { "," Arg } [ ";" ] "]"
Primary = name | Unnamed
Unnamed = Call | Piece | Value | "(" Expr [ ";" ] ")"
Unary = ( "-" | "^" | "!" | "<-" ) Unary | Primary
Arg = Expr | ListType
Value = number | "true" | "false" | "func" Sig Block | Literal | "make" "(" Type "," Expr [ ";" ] ")"
Literal = name "{" [ Expr { "," Expr } [ ";" ] ] "}"
Op = "+" | "-" | "*" | "/" | "%" | "&" | "|" | "^" | "<<" | ">>" | "&^" | "&&" | "||" | "==" | "!=" | "<" | "<=" | ">" | ">="
`

// inHead answers the expressions' rules for a head.
func inHead() string {
	text, depth := "", 0
	for line := range strings.Lines(strings.TrimSpace(expressions)) {
		for i, w := range strings.Fields(line) {
			switch {
			case strings.Contains(`"(" "[" "{"`, w) && len(w) == 3:
				depth++
			case strings.Contains(`")" "]" "}"`, w) && len(w) == 3:
				depth--
			case w == "Literal" && i > 0:
				w = "never"
			case depth == 0 && strings.Contains(expressions, "\n"+w+" = "):
				w = "Head" + w
			}
			text += w + " "
		}
		text += "\n"
	}
	return text
}

// rule: a name of a part, and what it is made of: names of other parts and of tokens.
type rule struct {
	name string
	list []string
}

// rules holds the grammar: by the names of parts, what they may be, and whether they may be nothing.
type rules struct {
	all     []rule
	byName  map[string][]int
	nothing map[string]bool
}

func readRules() *rules {
	g := &rules{byName: map[string][]int{}, nothing: map[string]bool{}}
	for line := range strings.Lines(strings.TrimSpace(grammar) + expressions + inHead()) {
		if w := strings.Fields(line); len(w) > 0 {
			g.alternatives(w[0], w[2:])
		}
	}
	for changed := true; changed; {
		changed = false
		for _, r := range g.all {
			if !g.nothing[r.name] && g.areNothing(r.list) {
				g.nothing[r.name], changed = true, true
			}
		}
	}
	return g
}

func (g *rules) areNothing(list []string) bool {
	for _, w := range list {
		if !g.nothing[w] {
			return false
		}
	}
	return true
}

func (g *rules) add(name string, list []string) {
	g.byName[name] = append(g.byName[name], len(g.all))
	g.all = append(g.all, rule{name, list})
}

// alternatives adds what name may be, up to the closing sign, and answers what stands behind it.
func (g *rules) alternatives(name string, w []string) []string {
	var list []string
	for len(w) > 0 {
		first := w[0]
		w = w[1:]
		inner := name + "." + strconv.Itoa(len(g.all)) + "." + strconv.Itoa(len(w))
		switch first {
		case ")", "]", "}":
			g.add(name, list)
			return w
		case "|":
			g.add(name, list)
			list = nil
		case "(":
			w = g.alternatives(inner, w)
			list = append(list, inner)
		case "[":
			w = g.alternatives(inner, w)
			g.add(inner, nil)
			list = append(list, inner)
		case "{":
			w = g.alternatives(inner, w)
			g.add(inner+"s", nil)
			g.add(inner+"s", []string{inner + "s", inner})
			list = append(list, inner+"s")
		default:
			list = append(list, first)
		}
	}
	g.add(name, list)
	return nil
}

// item: so much of a rule has been read since that token.
type item struct {
	rule, done, from int
}

// column: the items ahead of a token.
type column struct {
	items []item
	seen  map[item]bool
}

// chart tells what can go on behind tokens. It keeps what it has found out of those that the next text begins with, too.
type chart struct {
	g       *rules
	tokens  []api.Token
	columns []column
}

func newChart(g *rules, start string) *chart {
	c := &chart{g: g, columns: []column{{seen: map[item]bool{}}}}
	for _, r := range g.byName[start] {
		c.put(0, item{r, 0, 0})
	}
	c.complete(0)
	return c
}

func (c *chart) put(at int, i item) {
	if l := &c.columns[at]; !l.seen[i] {
		l.seen[i] = true
		l.items = append(l.items, i)
	}
}

// next answers what the item asks for; nothing at its end.
func (c *chart) next(i item) string {
	if list := c.g.all[i.rule].list; i.done < len(list) {
		return list[i.done]
	}
	return ""
}

func (c *chart) complete(at int) {
	for n := 0; n < len(c.columns[at].items); n++ {
		i := c.columns[at].items[n]
		want := c.next(i)
		if want == "" {
			c.finish(at, i)
			continue
		}
		for _, r := range c.g.byName[want] {
			c.put(at, item{r, 0, at})
		}
		if c.g.nothing[want] {
			c.put(at, item{i.rule, i.done + 1, i.from})
		}
	}
}

// finish moves on what has waited for the item. Of what began right here, what may be nothing has been moved on already.
func (c *chart) finish(at int, i item) {
	name := c.g.all[i.rule].name
	for n := 0; n < len(c.columns[i.from].items); n++ {
		if w := c.columns[i.from].items[n]; c.next(w) == name {
			c.put(at, item{w.rule, w.done + 1, w.from})
		}
	}
}

// fits tells whether the token is what the grammar calls so.
func fits(want string, t api.Token) bool {
	switch want {
	case "name":
		return t.Kind == api.KName
	case "nomake":
		return t.Kind == api.KName && t.Text != "make"
	case "number":
		return t.Kind == api.KInt
	case `";"`:
		return t.Kind == api.KSemi
	}
	return want == `"`+t.Text+`"`
}

// push tells whether t can go on, and reads it if so.
func (c *chart) push(t api.Token) bool {
	last := len(c.columns) - 1
	c.columns = append(c.columns, column{seen: map[item]bool{}})
	for _, i := range c.columns[last].items {
		if fits(c.next(i), t) {
			c.put(last+1, item{i.rule, i.done + 1, i.from})
		}
	}
	if len(c.columns[last+1].items) == 0 {
		c.columns = c.columns[:last+1]
		return false
	}
	c.tokens = append(c.tokens, t)
	c.complete(last + 1)
	return true
}

// cut leaves what is known of the tokens that both texts begin with.
func (c *chart) cut(tokens []api.Token) {
	n := 0
	for n < len(c.tokens) && n < len(tokens) && c.tokens[n].Kind == tokens[n].Kind && c.tokens[n].Text == tokens[n].Text {
		n++
	}
	c.tokens, c.columns = c.tokens[:n], c.columns[:n+1]
}

// dead tells which token something begins with that has been read and is at fault as a whole; -1: nothing.
func (c *chart) dead() int {
	for _, i := range c.columns[len(c.columns)-1].items {
		if c.next(i) == "dead" {
			return i.from
		}
	}
	return -1
}

// isWhole tells whether the text may end here.
func (c *chart) isWhole(start string) bool {
	for _, i := range c.columns[len(c.columns)-1].items {
		if i.from == 0 && c.next(i) == "" && c.g.all[i.rule].name == start {
			return true
		}
	}
	return false
}

// verdict tells where tokens of a text of that length are at fault; -1: nowhere.
func (c *chart) verdict(start string, tokens []api.Token, length int) int {
	c.cut(tokens)
	at := length
	for n := len(c.tokens); n < len(tokens); n++ {
		if c.push(tokens[n]) {
			continue
		}
		at = tokens[n].At
		if d := c.dead(); d >= 0 {
			at = tokens[d].At
		}
		return at
	}
	if c.isWhole(start) {
		return -1
	}
	if d := c.dead(); d >= 0 {
		at = tokens[d].At
	}
	return at
}

// wanted answers some tokens that can go on.
func (c *chart) wanted() []string {
	var list []string
	for _, i := range c.columns[len(c.columns)-1].items {
		switch w := c.next(i); {
		case w == "name" || w == "nomake":
			list = append(list, "x")
		case w == "number":
			list = append(list, "7")
		case strings.HasPrefix(w, `"`):
			list = append(list, strings.Trim(w, `"`))
		}
	}
	return list
}
