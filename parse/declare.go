package parse

import (
	"mullion/api"
	"mullion/node"
)

// program reads declarations up to the text's end.
func (r *reader) program() api.Node {
	n := api.Node{Kind: node.Program}
	for !r.isEnd() {
		n.List = append(n.List, r.declaration())
		if !r.isEnd() {
			r.semicolon()
		}
	}
	return n
}

// declaration reads a struct type or a function.
func (r *reader) declaration() api.Node {
	if r.is("type") {
		return r.structType()
	}
	return r.function()
}

// structType reads the declaration of a struct type.
func (r *reader) structType() api.Node {
	at := r.need("type")
	name := r.name()
	r.need("struct")
	r.need("{")
	fields := r.lines((*reader).field, "}")
	r.need("}")
	return api.Node{Kind: node.Struct, Text: name.Text, At: at, List: fields}
}

// field reads a name and its type: a field or a parameter.
func (r *reader) field() api.Node {
	name := r.name()
	return api.Node{Kind: node.Field, Text: name.Text, At: name.At, List: []api.Node{r.aType()}}
}

// function reads the declaration of a function.
func (r *reader) function() api.Node {
	at := r.need("func")
	name := r.name()
	list := append([]api.Node{r.typeParams()}, r.signature()...)
	return api.Node{Kind: node.Func, Text: name.Text, At: at, List: list}
}

// typeParams reads type parameters, if there are some.
func (r *reader) typeParams() api.Node {
	n := api.Node{Kind: node.TypeParams, At: r.token().At}
	if r.accept("[") {
		n.List = r.list((*reader).typeParam, "]")
	}
	return n
}

// typeParam reads a type parameter and its constraint.
func (r *reader) typeParam() api.Node {
	name := r.name()
	con := constraint(r.token().Text)
	if con == 0 {
		r.fail()
	}
	r.take()
	return api.Node{Kind: node.TypeParam, Text: name.Text, N: con, At: name.At}
}

// constraint answers the number of a constraint; 0: there is none of that name.
func constraint(name string) uint64 {
	switch name {
	case "any":
		return api.CAny
	case "comparable":
		return api.CComparable
	case "integer":
		return api.CInteger
	}
	return 0
}

// signature reads parameters, a result, if there is one, and a block.
func (r *reader) signature() []api.Node {
	params := api.Node{Kind: node.Params, At: r.need("(")}
	params.List = r.listOrNothing((*reader).field, ")")
	result := api.Node{Kind: node.Result, At: r.token().At, List: r.resultType()}
	return []api.Node{params, result, r.block()}
}

// resultType reads the type that comes of a function, if there is one.
func (r *reader) resultType() []api.Node {
	if !r.beginsType() {
		return nil
	}
	return []api.Node{r.aType()}
}

// beginsType tells whether a type may begin with what is to be read.
func (r *reader) beginsType() bool {
	return r.token().Kind == api.KName || r.is("[") || r.is("chan") || r.is("func")
}

// aType reads a type.
func (r *reader) aType() api.Node {
	if !r.beginsType() {
		r.fail()
	}
	t := r.take()
	switch t.Text {
	case "[":
		r.need("]")
		return api.Node{Kind: node.SliceType, At: t.At, List: []api.Node{r.aType()}}
	case "chan":
		return api.Node{Kind: node.ChanType, At: t.At, List: []api.Node{r.aType()}}
	case "func":
		return r.funcType(t.At)
	}
	return api.Node{Kind: node.TypeName, Text: t.Text, At: t.At}
}

// funcType reads a function type, of which the word func is read already.
func (r *reader) funcType(at int) api.Node {
	r.need("(")
	params := r.listOrNothing((*reader).aType, ")")
	result := r.resultType()
	return api.Node{Kind: node.FuncType, N: uint64(len(result)), At: at, List: append(params, result...)}
}
