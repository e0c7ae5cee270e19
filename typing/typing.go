// Package typing works out what types the parts of a program have, or that it has a fault, for all layers that check programs or go by their types. See shared/doc/09-check.md.
package typing

import (
	"mullion/api"
	"mullion/tree"
)

// Program is what is known of a program that has no fault.
type Program struct {
	Heads []*Head // of its functions, in their order
	Main  *Head
	types table
}

// Judge answers what is known of a program; or the error of a fault, and the place of a node. Where the checker gives up, deep inside, is told here.
func Judge(n api.Node) (p Program, at int, e api.Errno) {
	if tree.Check(n) != api.OK {
		return Program{}, 0, api.ErrForm
	}
	defer func() {
		caught := recover()
		if caught == nil {
			return
		}
		f, isOwn := caught.(fault)
		if !isOwn {
			panic(caught)
		}
		p, at, e = Program{}, f.at, f.e
	}()
	c := newChecker()
	heads := c.program(n)
	return Program{Heads: heads, Main: c.functions["main"], types: c.types}, 0, api.OK
}

// Replacer answers what answers a type with args in the place of the type parameters; nil: that is not sound.
func (p Program) Replacer(typeParams, args []*Type) func(t *Type) *Type {
	found := stands{}
	for i, t := range typeParams {
		found[t.name] = args[i]
	}
	return p.types.replacer(found)
}

// Sig answers a head as others know it.
func (h *Head) Sig() api.Sig {
	sig := api.Sig{Name: h.Name, TParams: Written(h.TypeParams), Params: Written(h.Takes)}
	if h.Gives != nil {
		sig.Res = Written([]*Type{h.Gives})
	}
	return sig
}

// Written answers types as others know them, each list in memory of its own. Some are larger by far than the program that they are types of.
func Written(types []*Type) []api.Type {
	var list func(from []*Type) []api.Type
	written := func(t *Type) api.Type {
		out := api.Type{Kind: t.kind, Name: t.name, Con: t.con}
		if t.kind != api.TStruct {
			takes := t.takes()
			out.List, out.Res = list(takes), list(t.parts[len(takes):])
			return out
		}
		for i, p := range list(t.parts) {
			out.Fields = append(out.Fields, api.Field{Name: t.fields[i], Type: p})
		}
		return out
	}
	list = func(from []*Type) []api.Type {
		var to []api.Type
		for _, t := range from {
			to = append(to, written(t))
		}
		return to
	}
	return list(types)
}
