package typing

import (
	"mullion/api"
	"mullion/node"
)

// block checks a block, and tells whether a function that ends with it does not end without a result.
func (c *checker) block(n api.Node) bool {
	c.open()
	endsSo := c.statements(n.List)
	c.close()
	return endsSo
}

// statements is block in the scope that is open.
func (c *checker) statements(list []api.Node) bool {
	endsSo := false
	for _, n := range list {
		endsSo = c.statement(n)
	}
	return endsSo
}

// statement checks a statement, and tells whether a function that ends with it does not end without a result.
func (c *checker) statement(n api.Node) bool {
	switch n.Kind {
	case node.Block:
		return c.block(n)
	case node.Define:
		c.declare(n, c.typeOf(n.List[0]))
	case node.Var:
		c.declare(n, c.written(n.List[0]))
	case node.Assign:
		c.want(n.List[1], c.target(n.List[0]))
	case node.Eval:
		return c.evaluation(n)
	case node.If:
		return c.branch(n)
	case node.For:
		return c.loop(n)
	case node.Leave:
		c.leave(n)
	case node.Return:
		c.returning(n)
		return true
	case node.Start:
		c.start(n.List[0])
	case node.Send:
		c.want(n.List[1], c.channel(n.List[0]))
	case node.Select:
		return c.selection(n)
	}
	return false
}

// target answers the type of what is assigned to: a variable, or what is kept in one, or in a slice.
func (c *checker) target(n api.Node) *Type {
	switch n.Kind {
	case node.Name:
		if t := c.variable(n.Text); t != nil {
			return t
		}
		panic(c.noSuch(n))
	case node.Dot:
		return c.field(n, c.target(n.List[0]))
	case node.Index:
		return c.item(n)
	}
	panic(fault{n.At, api.ErrPlace})
}

// evaluation checks an expression that is a statement: what comes of it is dropped. Only behind a panic nothing follows.
func (c *checker) evaluation(n api.Node) bool {
	call := n.List[0]
	c.expression(call)
	return call.Kind == node.Call && c.isFree(call.List[0]) && call.List[0].Text == "panic"
}

// branch checks an if.
func (c *checker) branch(n api.Node) bool {
	c.want(n.List[0], c.types.plain(api.TBool))
	endsSo := c.block(n.List[1])
	for _, other := range n.List[2:] {
		otherEndsSo := c.statement(other)
		endsSo = endsSo && otherEndsSo
	}
	return endsSo && len(n.List) > 2
}

// loop checks a for.
func (c *checker) loop(n api.Node) bool {
	head := n.List[0]
	c.want(head, c.types.plain(api.TBool))
	c.within.loops = append(c.within.loops, 0)
	c.block(n.List[1])
	last := len(c.within.loops) - 1
	breaks := c.within.loops[last]
	c.within.loops = c.within.loops[:last]
	return head.Kind == node.Flag && head.N == 1 && breaks == 0
}

// leave checks a break or a continue: each belongs to the innermost for, also in a select.
func (c *checker) leave(n api.Node) {
	last := len(c.within.loops) - 1
	if last < 0 {
		panic(fault{n.At, api.ErrPlace})
	}
	if isBreak := n.N == 0; isBreak {
		c.within.loops[last]++
	}
}

// returning checks a return.
func (c *checker) returning(n api.Node) {
	gives := c.within.gives
	if hasValue := len(n.List) > 0; hasValue != (gives != nil) {
		panic(fault{n.At, api.ErrType})
	}
	for _, value := range n.List {
		c.want(value, gives)
	}
}

// start checks the call of a go or defer: of a function of the program, or of one that is a value.
func (c *checker) start(call api.Node) {
	callee := call.List[0]
	if c.isFree(callee) && (isBuiltIn(callee.Text) || c.conversion(callee.Text) != nil) {
		panic(fault{callee.At, api.ErrPlace})
	}
	c.expression(call)
}

// channel answers what the channel holds that n is.
func (c *checker) channel(n api.Node) *Type {
	t := c.typeOf(n)
	if t.kind != api.TChan {
		panic(fault{n.At, api.ErrType})
	}
	return t.parts[0]
}

// selection checks a select.
func (c *checker) selection(n api.Node) bool {
	endsSo := len(n.List) > 0
	for _, one := range n.List {
		oneEndsSo := c.oneCase(one)
		endsSo = endsSo && oneEndsSo
	}
	return endsSo
}

// oneCase checks a case of a select, which is one scope with its block.
func (c *checker) oneCase(n api.Node) bool {
	c.open()
	switch n.Kind {
	case node.ReceiveCase:
		held := c.channel(n.List[0])
		if n.Text != "" {
			c.declare(n, held)
		}
	case node.SendCase:
		c.want(n.List[1], c.channel(n.List[0]))
	}
	block := n.List[len(n.List)-1]
	endsSo := c.statements(block.List)
	c.close()
	return endsSo
}
