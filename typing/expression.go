package typing

import (
	"mullion/api"
	"mullion/node"
)

// value is what an expression is: something of a type; or a constant, which has none; or, as all that comes of some calls, nothing.
type value struct {
	t          *Type // nil: it has none
	isConstant bool
	neg        bool // a constant is size, or, with neg, -size
	size       uint64
}

// typed answers something of a type; nothing, if that is nil.
func typed(t *Type) value {
	return value{t: t}
}

// expression answers what an expression is.
func (c *checker) expression(n api.Node) value {
	switch n.Kind {
	case node.Name:
		return typed(c.name(n))
	case node.Number:
		return value{isConstant: true, size: n.N}
	case node.Flag:
		return typed(c.types.plain(api.TBool))
	case node.Operator:
		if len(n.List) == 1 {
			return c.operatorOfOne(n)
		}
		return c.operatorOfTwo(n)
	case node.Call:
		return c.call(n)
	case node.Dot:
		return typed(c.field(n, c.typeOf(n.List[0])))
	case node.Index:
		return typed(c.item(n))
	case node.Literal:
		return typed(c.literal(n))
	case node.FuncLiteral:
		return typed(c.funcLiteral(n))
	case node.Receive:
		return typed(c.channel(n.List[0]))
	}
	return typed(c.making(n))
}

// typeOf answers the type of an expression, where none is wanted.
func (c *checker) typeOf(n api.Node) *Type {
	return c.settle(n, c.expression(n))
}

// settle answers the type that v, which n is, has where none is wanted.
func (c *checker) settle(n api.Node, v value) *Type {
	if v.isConstant {
		v = c.fit(n, v, c.types.plain(api.TInt64))
	}
	if v.t == nil {
		panic(fault{n.At, api.ErrType})
	}
	return v.t
}

// want asks for an expression that is assignable to t.
func (c *checker) want(n api.Node, t *Type) {
	c.fit(n, c.expression(n), t)
}

// fit answers v, which n is, as something of the type t, and gives up if it is not assignable to that.
func (c *checker) fit(n api.Node, v value, t *Type) value {
	if v.isConstant && t.isWhole() {
		if !v.isIn(t) {
			panic(fault{n.At, api.ErrConst})
		}
		return typed(t)
	}
	if v.t != t {
		panic(fault{n.At, api.ErrType})
	}
	return v
}

// wantWhole asks for an expression of a whole type, and answers it.
func (c *checker) wantWhole(n api.Node) *Type {
	return c.whole(n, c.typeOf(n))
}

// whole answers t, which n has, and gives up if it is no whole type.
func (c *checker) whole(n api.Node, t *Type) *Type {
	if !t.isWhole() {
		panic(fault{n.At, api.ErrType})
	}
	return t
}

// name answers the type of a variable, or of a function as a value.
func (c *checker) name(n api.Node) *Type {
	if t := c.variable(n.Text); t != nil {
		return t
	}
	h := c.functions[n.Text]
	if h == nil || len(h.TypeParams) > 0 {
		panic(c.noSuch(n))
	}
	c.needs = append(c.needs, Need{Of: h})
	return c.sound(n, c.types.function(h.Takes, h.Gives))
}

// field answers the type of x.f, of which x has the type t.
func (c *checker) field(n api.Node, t *Type) *Type {
	if t.kind != api.TStruct {
		panic(fault{n.At, api.ErrType})
	}
	for i, name := range t.fields {
		if name == n.Text {
			return t.parts[i]
		}
	}
	panic(fault{n.At, api.ErrName})
}

// item answers the type of x[i].
func (c *checker) item(n api.Node) *Type {
	t := c.typeOf(n.List[0])
	if t.kind != api.TSlice {
		panic(fault{n.At, api.ErrType})
	}
	index := n.List[1]
	if len(n.List) > 2 || index.Kind == node.SliceType || index.Kind == node.ChanType {
		panic(fault{n.At, api.ErrPlace})
	}
	c.wantWhole(index)
	return t.parts[0]
}

// literal answers the type of P{..}.
func (c *checker) literal(n api.Node) *Type {
	t := c.structs[n.Text]
	if t == nil || c.variable(n.Text) != nil {
		panic(c.noSuch(n))
	}
	if len(n.List) != len(t.parts) {
		panic(fault{n.At, api.ErrType})
	}
	for i, p := range t.parts {
		c.want(n.List[i], p)
	}
	return t
}

// funcLiteral answers the type of a func literal.
func (c *checker) funcLiteral(n api.Node) *Type {
	takes, gives := c.signature(n.List[0], n.List[1])
	t := c.sound(n, c.types.function(takes, gives))
	c.body(n.List[0], takes, gives, n.List[2])
	return t
}

// making answers the type of a make.
func (c *checker) making(n api.Node) *Type {
	t := c.written(n.List[0])
	if t.kind != api.TSlice && t.kind != api.TChan {
		panic(fault{n.At, api.ErrType})
	}
	c.wantWhole(n.List[1])
	return t
}
