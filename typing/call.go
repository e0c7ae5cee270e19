package typing

import (
	"mullion/api"
	"mullion/node"
)

// isFree tells whether n is a name that no variable has.
func (c *checker) isFree(n api.Node) bool {
	return n.Kind == node.Name && c.variable(n.Text) == nil
}

// call answers what comes of a call.
func (c *checker) call(n api.Node) value {
	callee := n.List[0]
	if c.isFree(callee) {
		return c.callByName(n, callee)
	}
	if h := c.generic(callee); h != nil {
		return c.callFunction(n, h, c.typeArguments(callee, h))
	}
	t := c.typeOf(callee)
	if t.kind != api.TFunc {
		panic(fault{n.At, api.ErrType})
	}
	takes := t.takes()
	for i, v := range c.arguments(n, len(takes)) {
		c.fit(n.List[i+1], v, takes[i])
	}
	return typed(t.gives())
}

// callByName answers what comes of a call whose callee is a name that no variable has.
func (c *checker) callByName(n, callee api.Node) value {
	if t := c.conversion(callee.Text); t != nil {
		return c.convert(n, t)
	}
	if isBuiltIn(callee.Text) {
		return c.callBuiltIn(n, callee.Text)
	}
	h := c.functions[callee.Text]
	if h == nil {
		panic(c.noSuch(callee))
	}
	return c.callFunction(n, h, nil)
}

// arguments answers what the arguments of a call are, and asks for so many.
func (c *checker) arguments(n api.Node, many int) []value {
	if len(n.List)-1 != many {
		panic(fault{n.At, api.ErrType})
	}
	var list []value
	for _, a := range n.List[1:] {
		list = append(list, c.expression(a))
	}
	return list
}

// conversion answers the type whose name, called, converts to it; nil: that is no such name.
func (c *checker) conversion(name string) *Type {
	if t := c.typeParams[name]; t != nil && t.isWhole() {
		return t
	}
	if kind := plainKind(name); kind != 0 && kind != api.TBool {
		return c.types.plain(kind)
	}
	return nil
}

// convert answers the number in the type t that the one argument of n is.
func (c *checker) convert(n api.Node, t *Type) value {
	v := c.arguments(n, 1)[0]
	if v.isConstant {
		return c.fit(n.List[1], v, t)
	}
	c.whole(n.List[1], c.settle(n.List[1], v))
	return typed(t)
}

// callBuiltIn answers what comes of a function that is built in.
func (c *checker) callBuiltIn(n api.Node, name string) value {
	number := c.types.plain(api.TInt64)
	if name == "recover" {
		c.arguments(n, 0)
		return typed(number)
	}
	v := c.arguments(n, 1)[0]
	if name == "panic" {
		c.fit(n.List[1], v, number)
		return value{}
	}
	t := c.settle(n.List[1], v)
	switch {
	case name == "len" && t.kind == api.TSlice:
		return typed(number)
	case name == "print" && (t.isWhole() || t.kind == api.TBool):
	case name == "close" && t.kind == api.TChan:
	default:
		panic(fault{n.List[1].At, api.ErrType})
	}
	return value{}
}

// generic answers the function with type parameters whose type arguments stand in n; nil: n is nothing such.
func (c *checker) generic(n api.Node) *Head {
	if n.Kind != node.Index || !c.isFree(n.List[0]) {
		return nil
	}
	h := c.functions[n.List[0].Text]
	if h == nil || len(h.TypeParams) == 0 {
		return nil
	}
	return h
}

// typeArguments answers what the type parameters of h stand for by the types in the brackets of n.
func (c *checker) typeArguments(n api.Node, h *Head) stands {
	written := n.List[1:]
	if len(written) != len(h.TypeParams) {
		panic(fault{n.At, api.ErrInfer})
	}
	found := stands{}
	for i, p := range h.TypeParams {
		found[p.name] = c.typeArgument(written[i])
	}
	return found
}

// typeArgument answers the type that stands in brackets, where a name is an expression in the tree.
func (c *checker) typeArgument(n api.Node) *Type {
	switch n.Kind {
	case node.Name:
		return c.typeNamed(n)
	case node.SliceType, node.ChanType:
		return c.written(n)
	}
	panic(fault{n.At, api.ErrPlace})
}

// callFunction answers what comes of a function of the program. Its type parameters stand for what is found by now, or, if that is nil, for what the arguments tell.
func (c *checker) callFunction(n api.Node, h *Head, found stands) value {
	// The function stands ahead of what its arguments name, though its type arguments are known behind them.
	place := len(c.needs)
	c.needs = append(c.needs, Need{Of: h})
	arguments := c.arguments(n, len(h.Takes))
	if found == nil {
		found = c.infer(n, arguments, h.Takes)
	}
	c.needs[place].Args = c.constrained(n, h, found)
	replace := c.types.replacer(found)
	for i, v := range arguments {
		c.fit(n.List[i+1], v, c.sound(n, replace(h.Takes[i])))
	}
	if h.Gives == nil {
		return value{}
	}
	return typed(c.sound(n, replace(h.Gives)))
}

// constrained answers what the type parameters of h, which n calls, stand for, in their order, and asks that each is known and fits its constraint.
func (c *checker) constrained(n api.Node, h *Head, found stands) []*Type {
	var args []*Type
	for _, p := range h.TypeParams {
		arg := found[p.name]
		if arg == nil {
			panic(fault{n.At, api.ErrInfer})
		}
		if !arg.meets(p.con) {
			panic(fault{n.At, api.ErrType})
		}
		args = append(args, arg)
	}
	return args
}

// infer answers what type parameters stand for by the arguments of n: first by those that have a type, as a constant takes what is known then.
func (c *checker) infer(n api.Node, arguments []value, takes []*Type) stands {
	found := stands{}
	for i, v := range arguments {
		if v.t != nil && !found.match(takes[i], v.t) {
			panic(fault{n.List[i+1].At, api.ErrType})
		}
	}
	for i, v := range arguments {
		if p := takes[i]; v.isConstant && p.kind == api.TParam && found[p.name] == nil {
			found[p.name] = c.types.plain(api.TInt64)
		}
	}
	return found
}
