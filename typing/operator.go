package typing

import (
	"mullion/api"
	"mullion/konst"
)

// isIn tells whether a constant is a number of a whole type; of a type parameter, whether it is one of each type that this may stand for.
func (v value) isIn(t *Type) bool {
	if t.kind == api.TParam {
		_, e := konst.Fits(api.TInt8, v.neg, v.size)
		return e == api.OK && !v.neg
	}
	_, e := konst.Fits(t.kind, v.neg, v.size)
	return e == api.OK
}

// constant answers what was worked out of constants for n, and gives up if there is an error.
func constant(n api.Node, neg bool, size uint64, e api.Errno) value {
	if e != api.OK {
		panic(fault{n.At, api.ErrConst})
	}
	return value{isConstant: true, neg: neg, size: size}
}

// operatorOfOne answers what - ^ and ! make.
func (c *checker) operatorOfOne(n api.Node) value {
	x := n.List[0]
	v := c.expression(x)
	switch {
	case n.Text == "!":
		return c.fit(x, v, c.types.plain(api.TBool))
	case v.isConstant:
		neg, size, e := konst.Unary(n.Text, v.neg, v.size)
		return constant(n, neg, size, e)
	}
	return typed(c.whole(x, c.settle(x, v)))
}

// operatorOfTwo answers what the operators of two make.
func (c *checker) operatorOfTwo(n api.Node) value {
	a, b := c.expression(n.List[0]), c.expression(n.List[1])
	flag := c.types.plain(api.TBool)
	switch n.Text {
	case "&&", "||":
		c.fit(n.List[0], a, flag)
		return c.fit(n.List[1], b, flag)
	case "==", "!=":
		if !c.common(n, a, b).isComparable {
			panic(fault{n.At, api.ErrType})
		}
		return typed(flag)
	case "<", "<=", ">", ">=":
		c.whole(n, c.common(n, a, b))
		return typed(flag)
	}
	return c.arithmetic(n, a, b)
}

// arithmetic answers what the operators make of which a number comes.
func (c *checker) arithmetic(n api.Node, a, b value) value {
	if a.isConstant && b.isConstant {
		neg, size, e := konst.Fold(n.Text, a.neg, a.size, b.neg, b.size)
		return constant(n, neg, size, e)
	}
	if n.Text != "<<" && n.Text != ">>" {
		return typed(c.whole(n, c.common(n, a, b)))
	}
	c.whole(n.List[1], c.settle(n.List[1], b))
	return typed(c.whole(n.List[0], c.settle(n.List[0], a)))
}

// common answers the one type of both operands of n: a constant takes that of what stands beside it.
func (c *checker) common(n api.Node, a, b value) *Type {
	if a.isConstant {
		t := c.settle(n.List[1], b)
		c.fit(n.List[0], a, t)
		return t
	}
	t := c.settle(n.List[0], a)
	c.fit(n.List[1], b, t)
	return t
}
