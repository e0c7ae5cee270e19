package parse

import (
	"mullion/api"
	"mullion/node"
)

// block reads a block. If it is that of a func literal in a Head, its braces are brackets there.
func (r *reader) block() api.Node {
	return r.within(false, (*reader).braces)
}

// braces reads the statements of a block, and the braces about them.
func (r *reader) braces() api.Node {
	n := api.Node{Kind: node.Block, At: r.need("{")}
	n.List = r.lines((*reader).statement, "}")
	r.need("}")
	return n
}

// statement reads a statement, without its semicolon.
func (r *reader) statement() api.Node {
	t := r.token()
	switch t.Text {
	case "{":
		return r.block()
	case "var":
		return r.variable()
	case "if":
		return r.branch()
	case "for":
		return r.loop()
	case "break", "continue":
		r.take()
		return api.Node{Kind: node.Leave, N: oneIf(t, "continue"), At: t.At}
	case "return":
		return r.returning()
	case "go", "defer":
		return r.start()
	case "select":
		return r.selection()
	}
	return r.simple()
}

// oneIf answers 1 if t is that word, else 0: the N of a node that may stand for two words.
func oneIf(t api.Token, word string) uint64 {
	if t.Text == word {
		return 1
	}
	return 0
}

// variable reads var x T.
func (r *reader) variable() api.Node {
	at := r.need("var")
	name := r.name()
	return api.Node{Kind: node.Var, Text: name.Text, At: at, List: []api.Node{r.aType()}}
}

// branch reads an if, with its else.
func (r *reader) branch() api.Node {
	at := r.need("if")
	head := r.head()
	list := []api.Node{head, r.block()}
	if r.accept("else") {
		list = append(list, r.otherwise())
	}
	return api.Node{Kind: node.If, At: at, List: list}
}

// otherwise reads what stands behind else.
func (r *reader) otherwise() api.Node {
	if r.is("if") {
		return r.branch()
	}
	return r.block()
}

// loop reads a for.
func (r *reader) loop() api.Node {
	at := r.need("for")
	head := r.head()
	return api.Node{Kind: node.For, At: at, List: []api.Node{head, r.block()}}
}

// head reads the expression of an if or for.
func (r *reader) head() api.Node {
	return r.within(true, (*reader).expression)
}

// returning reads a return.
func (r *reader) returning() api.Node {
	n := api.Node{Kind: node.Return, At: r.need("return")}
	if !r.isSemicolon() && !r.is("}") && !r.isEnd() {
		n.List = []api.Node{r.expression()}
	}
	return n
}

// start reads go or defer, and the call behind it.
func (r *reader) start() api.Node {
	t := r.take()
	first := r.token().At
	call := r.expression()
	if call.Kind != node.Call {
		panic(fault{first})
	}
	return api.Node{Kind: node.Start, N: oneIf(t, "defer"), At: t.At, List: []api.Node{call}}
}

// simple reads a statement that begins with no word of its own.
func (r *reader) simple() api.Node {
	first := r.token().At
	if r.beginsDefinition() {
		name := r.definedName()
		return api.Node{Kind: node.Define, Text: name, At: first, List: []api.Node{r.expression()}}
	}
	left := r.expression()
	at := r.token().At
	switch {
	case r.accept("<-"):
		return api.Node{Kind: node.Send, At: at, List: []api.Node{left, r.expression()}}
	case r.accept("="):
		right := r.expression()
		if left.Kind != node.Name && left.Kind != node.Dot && left.Kind != node.Index {
			panic(fault{first})
		}
		return api.Node{Kind: node.Assign, At: first, List: []api.Node{left, right}}
	}
	if left.Kind != node.Call && left.Kind != node.Receive {
		panic(fault{first})
	}
	return api.Node{Kind: node.Eval, At: first, List: []api.Node{left}}
}

// beginsDefinition tells whether a name and := are to be read.
func (r *reader) beginsDefinition() bool {
	behind := r.done + 1
	return r.token().Kind == api.KName && behind < len(r.tokens) && r.tokens[behind].Text == ":="
}

// definedName reads a name and :=, and answers the name.
func (r *reader) definedName() string {
	name := r.name()
	r.need(":=")
	return name.Text
}

// selection reads a select. No default can go on behind another one.
func (r *reader) selection() api.Node {
	n := api.Node{Kind: node.Select, At: r.need("select")}
	r.need("{")
	hasDefault := false
	for !r.accept("}") {
		if r.is("case") {
			n.List = append(n.List, r.selectCase())
			continue
		}
		if hasDefault {
			r.fail()
		}
		hasDefault = true
		at := r.need("default")
		n.List = append(n.List, api.Node{Kind: node.DefaultCase, At: at, List: []api.Node{r.caseBlock()}})
	}
	return n
}

// selectCase reads a case that receives or sends.
func (r *reader) selectCase() api.Node {
	at := r.need("case")
	if r.beginsDefinition() {
		name := r.definedName()
		r.need("<-")
		from := r.unary()
		return api.Node{Kind: node.ReceiveCase, Text: name, At: at, List: []api.Node{from, r.caseBlock()}}
	}
	left := r.expression()
	if r.accept("<-") {
		value := r.expression()
		return api.Node{Kind: node.SendCase, At: at, List: []api.Node{left, value, r.caseBlock()}}
	}
	if left.Kind != node.Receive {
		r.fail()
	}
	return api.Node{Kind: node.ReceiveCase, At: at, List: []api.Node{left.List[0], r.caseBlock()}}
}

// caseBlock reads the colon and the statements of a case.
func (r *reader) caseBlock() api.Node {
	n := api.Node{Kind: node.Block, At: r.need(":")}
	n.List = r.lines((*reader).statement, "}", "case", "default")
	return n
}
