package print

import (
	"slices"

	"mullion/api"
	"mullion/node"
)

// block writes a block; the line in which it begins tells how deep it is.
func (w *writer) block(n api.Node) {
	w.braces(n.List, 1, w.statement)
}

// statement writes a statement.
func (w *writer) statement(n api.Node) {
	switch n.Kind {
	case node.Block:
		w.block(n)
	case node.Define:
		w.put(n.Text, " := ")
		w.expression(n.List[0])
	case node.Var:
		w.put("var ")
		w.named(n)
	case node.Assign:
		w.pair(n, " = ")
	case node.Send:
		w.pair(n, " <- ")
	case node.Eval:
		w.expression(n.List[0])
	case node.If:
		w.branch(n)
	case node.For:
		w.put("for ")
		w.headed(n)
	case node.Leave:
		w.put(either(n, "break", "continue"))
	case node.Return:
		w.returning(n)
	case node.Start:
		w.put(either(n, "go ", "defer "))
		w.expression(n.List[0])
	case node.Select:
		w.put("select ")
		w.braces(n.List, 0, w.oneCase)
	}
}

// pair writes the first two expressions of n, with a sign between.
func (w *writer) pair(n api.Node, sign string) {
	w.expression(n.List[0])
	w.put(sign)
	w.expression(n.List[1])
}

// branch writes an if.
func (w *writer) branch(n api.Node) {
	w.put("if ")
	w.headed(n)
	for _, other := range n.List[2:] {
		w.put(" else ")
		w.statement(other)
	}
}

// headed writes the head and the block of an if or a for. A { behind a name in a head would begin the block, so that a head with a struct literal stands in a parenthesis.
func (w *writer) headed(n api.Node) {
	head := n.List[0]
	w.enclosed(hasLiteral(head), head)
	w.put(" ")
	w.block(n.List[1])
}

// hasLiteral tells whether a struct literal stands anywhere in n.
func hasLiteral(n api.Node) bool {
	return n.Kind == node.Literal || slices.ContainsFunc(n.List, hasLiteral)
}

// returning writes a return.
func (w *writer) returning(n api.Node) {
	w.put("return")
	for _, value := range n.List {
		w.put(" ")
		w.expression(value)
	}
}

// oneCase writes a case of a select: its statements are deeper than it is.
func (w *writer) oneCase(n api.Node) {
	switch n.Kind {
	case node.ReceiveCase:
		w.put("case ")
		if n.Text != "" {
			w.put(n.Text, " := ")
		}
		w.receipt(n.List[0])
	case node.SendCase:
		w.put("case ")
		w.pair(n, " <- ")
	case node.DefaultCase:
		w.put("default")
	}
	w.put(":")
	block := n.List[len(n.List)-1]
	w.lines(block.List, 1, w.statement)
}
