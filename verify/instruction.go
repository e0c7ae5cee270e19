package verify

import (
	"slices"

	"mullion/api"
	"mullion/op"
	"mullion/word"
)

const (
	ariths = 9 // + - * / % & | ^ &^
	shifts = 2 // << >>
)

// instruction asks for what an instruction's fields name and what it takes, and changes the stack as it does.
func (w *walk) instruction(i api.Instr) {
	switch i.Op {
	case op.Num, op.Flag, op.Zero, op.Load, op.Store, op.Drop:
		w.single(i)
	case op.Arith, op.Shift, op.Less, op.Equal, op.Not, op.Convert, op.Print:
		w.plain(i)
	case op.Pack, op.Part, op.With:
		w.structure(i)
	case op.Make, op.Len, op.At, op.Put:
		w.slice(i)
	case op.Box, op.Open, op.Fill:
		w.box(i)
	case op.Close, op.Cap, op.Call, op.Apply, op.Go, op.Defer, op.Caught:
		w.call(i)
	case op.Send, op.Recv, op.Shut, op.Select:
		w.channel(i)
	case op.Jump, op.If, op.Ret, op.Throw:
		w.flow(i)
	default:
		w.need(false)
	}
}

// single: what puts one value onto the stack, or has one go from it.
func (w *walk) single(i api.Instr) {
	switch i.Op {
	case op.Num:
		w.need(word.Is(w.shape(i.A).Kind, i.N))
		w.leave(i.A)
	case op.Flag:
		w.shapeOf(i.A, api.TBool)
		w.need(i.N <= 1)
		w.leave(i.A)
	case op.Zero:
		w.shape(i.A)
		w.leave(i.A)
	case op.Load:
		w.leave(w.local(i.A))
	case op.Store:
		w.take(w.local(i.A))
	case op.Drop:
		w.take(w.top(0))
	}
}

// plain: what works on numbers and flags, or compares.
func (w *walk) plain(i api.Instr) {
	t := w.top(0)
	switch i.Op {
	case op.Arith:
		w.need(isPlace(i.A, ariths))
		w.take(w.whole(t), t)
		w.leave(t)
	case op.Shift:
		w.need(isPlace(i.A, shifts))
		v := w.top(1)
		w.take(w.whole(v), w.whole(t))
		w.leave(v)
	case op.Less:
		w.shapeOf(i.B, api.TBool)
		w.take(w.whole(t), t)
		w.leave(i.B)
	case op.Equal:
		w.shapeOf(i.B, api.TBool)
		w.need(w.comparable[t])
		w.take(t, t)
		w.leave(i.B)
	case op.Not:
		w.shapeOf(t, api.TBool)
		w.take(t)
		w.leave(t)
	case op.Convert:
		w.take(w.whole(t))
		w.leave(w.whole(i.A))
	case op.Print:
		w.need(w.isWhole(t) || w.shape(t).Kind == api.TBool)
		w.take(t)
	}
}

// isWhole tells whether the shape t is a whole number's.
func (w *walk) isWhole(t int) bool {
	_, e := word.Bits(w.shape(t).Kind)
	return e == api.OK
}

// whole answers t, which has to be a whole number's shape.
func (w *walk) whole(t int) int {
	w.need(w.isWhole(t))
	return t
}

func (w *walk) structure(i api.Instr) {
	switch i.Op {
	case op.Pack:
		w.take(w.shapeOf(i.A, api.TStruct).List...)
		w.leave(i.A)
	case op.Part:
		t := w.top(0)
		w.take(t)
		w.leave(w.field(t, i.A))
	case op.With:
		t := w.top(1)
		w.take(t, w.field(t, i.A))
		w.leave(t)
	}
}

// field answers the shape of a field of the shape t, which has to be a struct's.
func (w *walk) field(t, n int) int {
	fields := w.shapeOf(t, api.TStruct).List
	w.need(isPlace(n, len(fields)))
	return fields[n]
}

func (w *walk) slice(i api.Instr) {
	switch i.Op {
	case op.Make:
		w.shapeOf(i.A, api.TSlice, api.TChan)
		w.take(w.whole(i.B))
		w.leave(i.A)
	case op.Len:
		w.shapeOf(i.B, api.TInt64)
		t := w.top(0)
		w.shapeOf(t, api.TSlice)
		w.take(t)
		w.leave(i.B)
	case op.At:
		t, at := w.top(1), w.top(0)
		w.take(t, w.whole(at))
		w.leave(w.of(t, api.TSlice))
	case op.Put:
		t, at := w.top(2), w.top(1)
		w.take(t, w.whole(at), w.of(t, api.TSlice))
	}
}

func (w *walk) box(i api.Instr) {
	switch i.Op {
	case op.Box:
		w.take(w.of(i.A, api.TBox))
		w.leave(i.A)
	case op.Open:
		t := w.top(0)
		w.take(t)
		w.leave(w.of(t, api.TBox))
	case op.Fill:
		t := w.top(1)
		w.take(t, w.of(t, api.TBox))
	}
}

// call: what makes closures, calls functions, or stands in a function for what its caller brought about.
func (w *walk) call(i api.Instr) {
	switch i.Op {
	case op.Close:
		f := w.function(i.A)
		w.need(isOf(f, w.shapeOf(i.B, api.TFunc)))
		w.take(f.Caps...)
		w.leave(i.B)
	case op.Cap:
		w.need(isPlace(i.A, len(w.f.Caps)))
		w.leave(w.f.Caps[i.A])
	case op.Call:
		f := w.function(i.A)
		w.need(len(f.Caps) == 0)
		w.take(parameters(f)...)
		w.leave(result(f.Res)...)
	case op.Apply:
		s := w.closure(i.A)
		w.leave(result(s.Res)...)
	case op.Go, op.Defer:
		w.closure(i.A)
	case op.Caught:
		w.shapeOf(i.B, api.TInt64)
		w.leave(i.B)
	}
}

// function answers a function of the module.
func (w *walk) function(fn int) api.Func {
	w.need(isPlace(fn, len(w.m.Funcs)))
	return w.m.Funcs[fn]
}

// closure takes a closure of the shape t and what it takes, and answers the shape.
func (w *walk) closure(t int) api.Shape {
	s := w.shapeOf(t, api.TFunc)
	w.take(slices.Concat([]int{t}, s.List)...)
	return s
}

// isOf tells whether closures of a function have that shape.
func isOf(f api.Func, s api.Shape) bool {
	return slices.Equal(parameters(f), s.List) && f.Res == s.Res
}

// parameters answers the shapes of a function's parameters.
func parameters(f api.Func) []int {
	return f.Locals[:f.Params]
}

// result answers the shape of a result, as a list of it, where res is it and one, or 0.
func result(res int) []int {
	if res == 0 {
		return nil
	}
	return []int{res - 1}
}

func (w *walk) channel(i api.Instr) {
	switch i.Op {
	case op.Send:
		t := w.top(1)
		w.take(t, w.of(t, api.TChan))
	case op.Recv:
		t := w.top(0)
		w.take(t)
		w.leave(w.of(t, api.TChan))
	case op.Shut:
		t := w.top(0)
		w.shapeOf(t, api.TChan)
		w.take(t)
	case op.Select:
		w.selection(i)
	}
}

// selection: a Select, which finds nothing on the stack.
func (w *walk) selection(i api.Instr) {
	w.need(len(w.stack) == 0 && len(i.Cases) <= api.MaxParams)
	if i.B != 0 {
		w.place(i.B - 1)
	}
	for _, c := range i.Cases {
		of := w.of(w.local(c.Chan), api.TChan)
		isDropped := !c.Send && c.Val == -1
		w.need(isDropped || w.local(c.Val) == of)
		w.place(c.To)
	}
}

// flow: what goes on elsewhere, and leaves nothing on the stack.
func (w *walk) flow(i api.Instr) {
	switch i.Op {
	case op.Jump:
		w.place(i.A)
	case op.If:
		w.place(i.A)
		t := w.top(0)
		w.shapeOf(t, api.TBool)
		w.take(t)
	case op.Ret:
		w.take(result(w.f.Res)...)
	case op.Throw:
		t := w.top(0)
		w.shapeOf(t, api.TInt64)
		w.take(t)
	}
	w.need(len(w.stack) == 0)
}
