package print

import (
	"mullion/api"
	"mullion/node"
)

// program writes a program.
func (w *writer) program(n api.Node) {
	for _, d := range n.List {
		w.declaration(d)
		w.newLine()
	}
}

// declaration writes a struct type or a function.
func (w *writer) declaration(n api.Node) {
	if n.Kind == node.Struct {
		w.put("type ", n.Text, " struct ")
		w.braces(n.List, 1, w.named)
		return
	}
	w.put("func ", n.Text)
	w.typeParams(n.List[0])
	w.signature(n.List[1:])
}

// typeParams writes the type parameters of a function, if there are some.
func (w *writer) typeParams(n api.Node) {
	if len(n.List) > 0 {
		w.put("[")
		w.list(n.List, w.typeParam)
		w.put("]")
	}
}

// typeParam writes a type parameter.
func (w *writer) typeParam(n api.Node) {
	w.put(n.Text, " ", constraint(n.N))
}

// constraint answers the word for a constraint.
func constraint(con uint64) string {
	switch con {
	case api.CComparable:
		return "comparable"
	case api.CInteger:
		return "integer"
	}
	return "any"
}

// signature writes what a function takes, what comes of it, and its block: the end of a function's List.
func (w *writer) signature(list []api.Node) {
	w.put("(")
	w.list(list[0].List, w.named)
	w.put(")")
	w.result(list[1].List)
	w.put(" ")
	w.block(list[2])
}

// result writes the type of what comes of a function, if something does.
func (w *writer) result(types []api.Node) {
	for _, t := range types {
		w.put(" ")
		w.aType(t)
	}
}

// named writes a name and its type.
func (w *writer) named(n api.Node) {
	w.put(n.Text, " ")
	w.aType(n.List[0])
}

// aType writes a type.
func (w *writer) aType(n api.Node) {
	switch n.Kind {
	case node.TypeName:
		w.put(n.Text)
	case node.SliceType:
		w.put("[]")
		w.aType(n.List[0])
	case node.ChanType:
		w.put("chan ")
		w.aType(n.List[0])
	case node.FuncType:
		// N is as many results as there are behind the parameters.
		params := len(n.List) - int(n.N)
		w.put("func(")
		w.list(n.List[:params], w.aType)
		w.put(")")
		w.result(n.List[params:])
	}
}
