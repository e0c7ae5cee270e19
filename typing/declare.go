package typing

import (
	"mullion/api"
	"mullion/node"
)

// program checks a program, and answers the heads of its functions in their order. What is within functions comes last, as all declarations are known there.
func (c *checker) program(n api.Node) []*Head {
	for _, d := range n.List {
		c.declareName(d)
	}
	for _, d := range n.List {
		if d.Kind == node.Struct {
			c.structs[d.Text] = c.structType(d)
		}
	}
	var heads []*Head
	for _, d := range n.List {
		if d.Kind == node.Func {
			heads = append(heads, c.head(d))
			c.functions[d.Text] = heads[len(heads)-1]
		}
	}
	c.main(n)
	for _, d := range n.List {
		if d.Kind == node.Func {
			c.functionBody(d)
		}
	}
	return heads
}

// declareName makes the name of a declaration known, in the one space that all of them have.
func (c *checker) declareName(d api.Node) {
	if isGiven(d.Text) || c.declared[d.Text] > 0 {
		panic(fault{d.At, api.ErrTwice})
	}
	c.declared[d.Text]++
}

// structType answers the type that is declared; of struct types only those ahead may be named in it.
func (c *checker) structType(d api.Node) *Type {
	t := Type{kind: api.TStruct, name: d.Text}
	seen := map[string]int{}
	for _, f := range d.List {
		if seen[f.Text] > 0 {
			panic(fault{f.At, api.ErrTwice})
		}
		seen[f.Text]++
		t.fields = append(t.fields, f.Text)
		t.parts = append(t.parts, c.written(f.List[0]))
	}
	return c.sound(d, c.types.one(t))
}

// head answers the head of a function that is declared. Two parameters of one name are found with its body.
func (c *checker) head(d api.Node) *Head {
	h := &Head{Name: d.Text, TypeParams: c.newTypeParams(d)}
	for _, p := range d.List[1].List {
		if c.typeParams[p.Text] != nil {
			panic(fault{p.At, api.ErrTwice})
		}
	}
	h.Takes, h.Gives = c.signature(d.List[1], d.List[2])
	return h
}

// newTypeParams makes the type parameters of a function those that are known, and answers them in their order.
func (c *checker) newTypeParams(d api.Node) []*Type {
	c.typeParams = map[string]*Type{}
	var list []*Type
	for _, p := range d.List[0].List {
		// A type's name could not tell it from what has that name already.
		if isGiven(p.Text) || c.structs[p.Text] != nil || c.typeParams[p.Text] != nil {
			panic(fault{p.At, api.ErrTwice})
		}
		t := c.types.one(Type{kind: api.TParam, name: p.Text, con: int(p.N)})
		c.typeParams[p.Text] = t
		list = append(list, t)
	}
	return list
}

// signature answers what a function with these parameters and this result takes and gives.
func (c *checker) signature(params, result api.Node) (takes []*Type, gives *Type) {
	for _, p := range params.List {
		takes = append(takes, c.written(p.List[0]))
	}
	for _, r := range result.List {
		gives = c.written(r)
	}
	return takes, gives
}

// main asks for the function that a program begins with.
func (c *checker) main(n api.Node) {
	main := c.functions["main"]
	if main == nil {
		panic(fault{n.At, api.ErrName})
	}
	if len(main.TypeParams)+len(main.Takes) > 0 || main.Gives != nil {
		panic(fault{n.At, api.ErrType})
	}
}

// functionBody checks what is within a function that is declared.
func (c *checker) functionBody(d api.Node) {
	c.newTypeParams(d)
	h := c.functions[d.Text]
	c.needs = nil
	c.body(d.List[1], h.Takes, h.Gives, d.List[3])
	h.Needs = c.needs
}

// body checks a block as that of a function with these parameters. What is outside of it is known in it, but no loops are.
func (c *checker) body(params api.Node, takes []*Type, gives *Type, block api.Node) {
	outside := c.within
	c.within = function{gives: gives}
	c.open()
	for i, p := range params.List {
		c.declare(p, takes[i])
	}
	if endsSo := c.block(block); !endsSo && gives != nil {
		panic(fault{block.At, api.ErrEnd})
	}
	c.close()
	c.within = outside
}

// written answers the type that a node tells.
func (c *checker) written(n api.Node) *Type {
	switch n.Kind {
	case node.TypeName:
		return c.typeNamed(n)
	case node.SliceType:
		return c.sound(n, c.types.one(Type{kind: api.TSlice, parts: []*Type{c.written(n.List[0])}}))
	case node.ChanType:
		return c.sound(n, c.types.one(Type{kind: api.TChan, parts: []*Type{c.written(n.List[0])}}))
	}
	var parts []*Type
	for _, p := range n.List {
		parts = append(parts, c.written(p))
	}
	return c.sound(n, c.types.one(Type{kind: api.TFunc, parts: parts, hasRes: n.N == 1}))
}

// typeNamed answers the type whose name a node has.
func (c *checker) typeNamed(n api.Node) *Type {
	if c.variable(n.Text) == nil {
		if kind := plainKind(n.Text); kind != 0 {
			return c.types.plain(kind)
		}
		if t := c.typeParams[n.Text]; t != nil {
			return t
		}
		if t := c.structs[n.Text]; t != nil {
			return t
		}
	}
	panic(c.noSuch(n))
}

// sound answers t, which n is or has, and gives up if it is beyond the limits of types.
func (c *checker) sound(n api.Node, t *Type) *Type {
	if t == nil || !t.isSound() {
		panic(fault{n.At, api.ErrLarge})
	}
	return t
}
