package verify

import (
	"slices"

	"mullion/api"
	"mullion/op"
)

// maxStack is how many values a stack may have.
const maxStack = 64

// walk goes through the code of a function, one instruction after the other, and gives up where something is not as told.
type walk struct {
	m             api.Module // sound in form
	comparable    []bool     // of each shape
	f             api.Func
	places        map[int]struct{} // of the jumps in f
	at            int              // the instruction that is looked at, or the next one
	stack         []int            // the shapes of what is on it; the top stands last
	takes, leaves []int            // of the last instruction
}

// fault is what a walk gives up with: the place of the instruction at which something is not as told.
type fault struct {
	at int
}

// enter begins a walk through the function fn of a module that is sound in form.
func enter(m api.Module, fn int) *walk {
	f := m.Funcs[fn]
	return &walk{m: m, comparable: comparables(m.Types), f: f, places: placesOf(f.Code)}
}

// comparables tells of each shape whether it is comparable.
func comparables(shapes []api.Shape) []bool {
	all := make([]bool, len(shapes))
	isOther := func(t int) bool { return !all[t] }
	for t, s := range shapes {
		switch s.Kind {
		case api.TSlice, api.TFunc, api.TBox:
		case api.TStruct:
			all[t] = !slices.ContainsFunc(s.List, isOther)
		default:
			all[t] = true
		}
	}
	return all
}

// placesOf answers the places of all jumps of a code, whatever else is wrong with these.
func placesOf(list []api.Instr) map[int]struct{} {
	places := map[int]struct{}{}
	add := func(at int) {
		if isPlace(at, len(list)) {
			places[at] = struct{}{}
		}
	}
	for _, i := range list {
		switch i.Op {
		case op.Jump, op.If:
			add(i.A)
		case op.Select:
			add(i.B - 1)
			for _, c := range i.Cases {
				add(c.To)
			}
		}
	}
	return places
}

// step goes through the next instruction.
func (w *walk) step() {
	i := w.f.Code[w.at]
	_, isJumpedTo := w.places[w.at]
	w.need(len(w.stack) <= maxStack)
	w.need(!isJumpedTo || len(w.stack) == 0)
	w.need(w.at < len(w.f.Code)-1 || mayBeLast(i.Op))
	w.needNoughts(i)
	w.takes, w.leaves = w.takes[:0], w.leaves[:0]
	w.instruction(i)
	w.at++
}

// mayBeLast tells whether the last instruction of a function may be such a one: nothing goes on behind it.
func mayBeLast(o int) bool {
	return o == op.Jump || o == op.Ret || o == op.Throw
}

// need gives up unless it is so.
func (w *walk) need(isSo bool) {
	if !isSo {
		panic(fault{w.at})
	}
}

// needNoughts asks that no field of an instruction is used that is not named for it.
func (w *walk) needNoughts(i api.Instr) {
	var a, b, n, cases bool
	switch i.Op {
	case op.Num, op.Flag:
		a, n = true, true
	case op.Zero, op.Load, op.Store, op.Arith, op.Shift, op.Convert, op.Pack, op.Part, op.With, op.Box,
		op.Cap, op.Call, op.Apply, op.Go, op.Defer, op.Jump, op.If:
		a = true
	case op.Less, op.Equal, op.Len, op.Caught:
		b = true
	case op.Make, op.Close:
		a, b = true, true
	case op.Select:
		b, cases = true, true
	}
	w.need((a || i.A == 0) && (b || i.B == 0) && (n || i.N == 0) && (cases || len(i.Cases) == 0))
}

// top answers the shape of the value that has so many above it on the stack.
func (w *walk) top(above int) int {
	at := len(w.stack) - 1 - above
	w.need(at >= 0)
	return w.stack[at]
}

// take has values of these shapes go from the stack, the last from its top.
func (w *walk) take(shapes ...int) {
	left := len(w.stack) - len(shapes)
	w.need(left >= 0 && slices.Equal(w.stack[left:], shapes))
	w.stack = w.stack[:left]
	w.takes = append(w.takes, shapes...)
}

// leave has values of these shapes come onto the stack.
func (w *walk) leave(shapes ...int) {
	w.stack = append(w.stack, shapes...)
	w.leaves = append(w.leaves, shapes...)
}

// shape answers the shape t.
func (w *walk) shape(t int) api.Shape {
	w.need(isPlace(t, len(w.m.Types)))
	return w.m.Types[t]
}

// shapeOf answers the shape t, which has to be of one of these Kinds.
func (w *walk) shapeOf(t int, kinds ...int) api.Shape {
	s := w.shape(t)
	w.need(slices.Contains(kinds, s.Kind))
	return s
}

// of answers what the shape t is of, which has to be of that Kind.
func (w *walk) of(t, kind int) int {
	return w.shapeOf(t, kind).List[0]
}

// local answers the shape of a local.
func (w *walk) local(n int) int {
	w.need(isPlace(n, len(w.f.Locals)))
	return w.f.Locals[n]
}

// place asks that n is the number of an instruction.
func (w *walk) place(n int) {
	w.need(isPlace(n, len(w.f.Code)))
}
