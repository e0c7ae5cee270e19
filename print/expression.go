package print

import (
	"strconv"

	"mullion/api"
	"mullion/node"
)

// unary is how strong an operator of one binds: stronger than all of two.
const unary = 6

// expression writes an expression.
func (w *writer) expression(n api.Node) {
	switch n.Kind {
	case node.Name:
		w.put(n.Text)
	case node.Number:
		w.put(strconv.FormatUint(n.N, 10))
	case node.Flag:
		w.put(either(n, "false", "true"))
	case node.Operator:
		w.operator(n)
	case node.Call:
		w.behind(n, "(", ")")
	case node.Dot:
		w.holder(n.List[0])
		w.put(".", n.Text)
	case node.Index:
		w.behind(n, "[", "]")
	case node.Literal:
		w.put(n.Text, "{")
		w.list(n.List, w.expression)
		w.put("}")
	case node.FuncLiteral:
		w.put("func")
		w.signature(n.List)
	case node.Receive:
		w.receipt(n.List[0])
	case node.Make:
		w.put("make(")
		w.list(n.List, w.argument)
		w.put(")")
	}
}

// operator writes an operator of one or of two. Those of one sort bind to the left, so that the right part has to bind stronger.
func (w *writer) operator(n api.Node) {
	if len(n.List) == 1 {
		w.put(n.Text)
		w.operand(n.List[0], unary)
		return
	}
	binds := Binds(n.Text)
	w.operand(n.List[0], binds)
	w.put(" ", n.Text, " ")
	w.operand(n.List[1], binds+1)
}

// receipt writes what is received from n.
func (w *writer) receipt(n api.Node) {
	w.put("<-")
	w.operand(n, unary)
}

// operand writes a part of an operator: in a parenthesis, if it is an operator of two that binds less than that.
func (w *writer) operand(n api.Node, least int) {
	isTwo := n.Kind == node.Operator && len(n.List) == 2
	w.enclosed(isTwo && Binds(n.Text) < least, n)
}

// behind writes a call or x[..]: the first of n's List, and the others in brackets.
func (w *writer) behind(n api.Node, opening, closing string) {
	w.holder(n.List[0])
	w.put(opening)
	w.list(n.List[1:], w.argument)
	w.put(closing)
}

// holder writes what is called, indexed, or of which a field is taken.
func (w *writer) holder(n api.Node) {
	switch n.Kind {
	case node.Operator, node.Receive, node.FuncLiteral:
		w.enclosed(true, n)
	default:
		w.expression(n)
	}
}

// enclosed writes an expression, in a parenthesis if that is asked for.
func (w *writer) enclosed(isAsked bool, n api.Node) {
	if !isAsked {
		w.expression(n)
		return
	}
	w.put("(")
	w.expression(n)
	w.put(")")
}

// argument writes an expression or a type.
func (w *writer) argument(n api.Node) {
	switch n.Kind {
	case node.TypeName, node.SliceType, node.ChanType, node.FuncType:
		w.aType(n)
	default:
		w.expression(n)
	}
}
