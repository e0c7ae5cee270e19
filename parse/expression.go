package parse

import (
	"mullion/api"
	"mullion/node"
	"mullion/strength"
)

// expression reads an expression.
func (r *reader) expression() api.Node {
	return r.binary(1)
}

// inner reads an expression within brackets.
func (r *reader) inner() api.Node {
	return r.within(false, (*reader).expression)
}

// binary reads operands, and the operators between that bind at least that strong.
func (r *reader) binary(least int) api.Node {
	left := r.unary()
	for {
		binds := strength.Of(r.token().Text)
		if binds < least {
			return left
		}
		op := r.take()
		left = api.Node{Kind: node.Operator, Text: op.Text, At: op.At, List: []api.Node{left, r.binary(binds + 1)}}
	}
}

// unary reads an operand with the operators of one ahead of it.
func (r *reader) unary() api.Node {
	t := r.token()
	switch t.Text {
	case "-", "^", "!":
		r.take()
		return api.Node{Kind: node.Operator, Text: t.Text, At: t.At, List: []api.Node{r.unary()}}
	case "<-":
		r.take()
		return api.Node{Kind: node.Receive, At: t.At, List: []api.Node{r.unary()}}
	}
	return r.behind(r.operand())
}

// behind reads the calls, dots and brackets that stand behind n.
func (r *reader) behind(n api.Node) api.Node {
	for {
		at := r.token().At
		switch {
		case r.accept("("):
			n = api.Node{Kind: node.Call, At: at, List: append([]api.Node{n}, r.listOrNothing((*reader).inner, ")")...)}
		case r.accept("."):
			n = api.Node{Kind: node.Dot, Text: r.name().Text, At: at, List: []api.Node{n}}
		case r.accept("["):
			n = api.Node{Kind: node.Index, At: at, List: append([]api.Node{n}, r.list((*reader).argument, "]")...)}
		default:
			return n
		}
	}
}

// argument reads what stands in the brackets of x[..]. Of types only a name can begin as an expression does, and it is read as one; what it is, no reader can know.
func (r *reader) argument() api.Node {
	if r.is("[") || r.is("chan") {
		return r.aType()
	}
	return r.inner()
}

// operand reads an operand.
func (r *reader) operand() api.Node {
	t := r.token()
	switch t.Kind {
	case api.KName:
		return r.named(r.take())
	case api.KInt:
		r.take()
		return api.Node{Kind: node.Number, N: t.N, At: t.At}
	}
	switch t.Text {
	case "true", "false":
		r.take()
		return api.Node{Kind: node.Flag, N: oneIf(t, "true"), At: t.At}
	case "(":
		return r.parenthesis()
	case "func":
		r.take()
		return api.Node{Kind: node.FuncLiteral, At: t.At, List: r.signature()}
	}
	panic(fault{t.At})
}

// parenthesis reads an expression in a parenthesis, which leaves nothing in the tree.
func (r *reader) parenthesis() api.Node {
	r.need("(")
	n := r.inner()
	r.closing(")")
	return n
}

// named reads an operand that begins with a name, which is read already.
func (r *reader) named(name api.Token) api.Node {
	switch {
	case name.Text == "make" && r.is("("):
		return r.making(name.At)
	case !r.inHead && r.accept("{"):
		return api.Node{Kind: node.Literal, Text: name.Text, At: name.At, List: r.listOrNothing((*reader).inner, "}")}
	}
	return api.Node{Kind: node.Name, Text: name.Text, At: name.At}
}

// making reads a make, of which the name is read already.
func (r *reader) making(at int) api.Node {
	r.need("(")
	what := r.aType()
	r.need(",")
	size := r.inner()
	r.closing(")")
	return api.Node{Kind: node.Make, At: at, List: []api.Node{what, size}}
}
