package code_test

import (
	"bytes"
	"slices"
	"testing"

	"mullion/api"
	"mullion/code"
)

// P11.1.

func TestShapeLimits(t *testing.T) {
	b := shape(1, 0)
	some := func(n int) []api.Shape {
		return append([]api.Shape{b}, slices.Repeat([]api.Shape{shape(8, 0, 0)}, n-1)...)
	}
	wantCheck(t, 255, true, shapes(some(255)...))
	wantCheck(t, 256, true, shapes(some(256)...))
	wantCheck(t, 257, false, shapes(some(257)...))
	wantCells(t, shapes(some(256)...), 255, 1, api.OK)
	wantCells(t, shapes(some(256)...), 256, 0, api.ErrRange)
	wantCells(t, shapes(some(257)...), 0, 0, api.ErrForm)
	// As many that all differ, and the same with the last as it was ahead.
	chain := []api.Shape{b}
	for len(chain) < 256 {
		chain = append(chain, shape(9, 0, len(chain)-1))
	}
	wantCheck(t, 0, true, shapes(chain...))
	chain[255] = chain[254]
	wantCheck(t, 1, false, shapes(chain...))
	for _, kind := range []int{8, 11} {
		wantCheck(t, kind, true, shapes(b, shape(kind, 0, noughts(16)...)))
		wantCheck(t, kind, false, shapes(b, shape(kind, 0, noughts(17)...)))
		wantCheck(t, kind, false, shapes(b, shape(kind, 0, noughts(70000)...)))
		// A struct of nothing: it is how many that counts, not their cells.
		wantCheck(t, kind, true, shapes(shape(8, 0), shape(kind, 0, noughts(16)...)))
		wantCheck(t, kind, false, shapes(shape(8, 0), shape(kind, 0, noughts(17)...)))
	}
	wantCheck(t, 2, false, shapes(b, shape(9, 0, noughts(17)...)))
	wantCheck(t, 3, true, shapes(b, shape(11, 1, noughts(16)...)))
}

func TestCellLimit(t *testing.T) {
	b, wide := shape(1, 0), shape(8, 0, noughts(16)...)
	full := shapes(b, wide, shape(8, 0, 1, 1, 1, 1))
	wantCheck(t, 0, true, full)
	wantCells(t, full, 2, 64, api.OK)
	for n, over := range [][]int{{1, 1, 1, 1, 0}, {0, 1, 1, 1, 1}, {1, 1, 0, 1, 1}, {2, 0}, {2, 1}, {2, 2}, slices.Repeat([]int{2}, 16)} {
		wantCheck(t, n, false, shapes(b, wide, shape(8, 0, 1, 1, 1, 1), shape(8, 0, over...)))
		wantCells(t, shapes(b, wide, shape(8, 0, 1, 1, 1, 1), shape(8, 0, over...)), 0, 0, api.ErrForm)
	}
	// One cell, whatever it is of; and a struct of nothing beside a full one.
	m := shapes(b, wide, shape(8, 0, 1, 1, 1, 1), shape(9, 0, 2), shape(10, 0, 2), shape(13, 0, 2), shape(11, 3, 2, 2, 2), shape(8, 0, 3, 4, 5, 6), shape(8, 0), shape(8, 0, 2, 8, 8))
	wantCheck(t, 8, true, m)
	for at, want := range []int{1, 16, 64, 1, 1, 1, 1, 4, 0, 64} {
		wantCells(t, m, at, want, api.OK)
	}
	// Each as large as sixteen of the one ahead: the last has 16^60 cells, were they counted.
	deep := []api.Shape{b}
	for at := range 60 {
		deep = append(deep, shape(8, 0, slices.Repeat([]int{at}, 16)...))
	}
	wantCheck(t, 9, false, shapes(deep...))
	// The same of nothing: 16^255 fields, and no cell.
	deep = []api.Shape{shape(8, 0)}
	for at := range 255 {
		deep = append(deep, shape(8, 0, slices.Repeat([]int{at}, 16)...))
	}
	wantCheck(t, 10, true, shapes(deep...))
	wantCells(t, shapes(deep...), 255, 0, api.OK)
}

func TestFunctionLimits(t *testing.T) {
	wantCheck(t, 256, true, functions(make([]api.Func, 256)...))
	wantCheck(t, 257, false, functions(make([]api.Func, 257)...))
	for n, want := range map[int]bool{1023: true, 1024: true, 1025: false, 70000: false} {
		wantCheck(t, n, want, functions(api.Func{Locals: noughts(n)}))
		wantCheck(t, n, want, functions(api.Func{Caps: noughts(n)}))
		wantCheck(t, n, want, functions(api.Func{}, api.Func{Locals: noughts(n), Params: n}))
		wantCheck(t, n, want, functions(api.Func{Locals: noughts(1024), Caps: noughts(n)}, api.Func{Locals: noughts(1024)}))
	}
	some := func(lengths ...int) api.Module {
		var list []api.Func
		for _, n := range lengths {
			list = append(list, api.Func{Code: make([]api.Instr, n)})
		}
		return functions(list...)
	}
	for n, m := range []api.Module{some(65536), some(65535, 1), some(0, 65536, 0), some(32768, 32768), some(slices.Repeat([]int{256}, 256)...)} {
		wantCheck(t, n, true, m)
	}
	for n, m := range []api.Module{some(65537), some(65536, 1), some(1, 65536), some(32768, 32769), some(1, 32768, 32768), some(slices.Repeat([]int{257}, 256)...), some(65536, 65536)} {
		wantCheck(t, n, false, m)
		wantCells(t, m, 0, 0, api.ErrForm)
	}
}

// P11.2.

// long is a module of n + 9 bytes, for n from 2^14 to 2^21 - 1: a function with n locals, all of them 0.
func long(n int) api.Module {
	return api.Module{Funcs: []api.Func{{Locals: noughts(n)}}}
}

func TestBytesLimit(t *testing.T) {
	const room = 1 << 20
	m := long(room - 9)
	b, e := code.Encode(m)
	if e != api.OK || len(b) != room {
		t.Fatalf("Encode: %d bytes, %d", len(b), e)
	}
	wantModule(t, b, m)
	wantDecode(t, append(b, 0), 0, api.ErrLarge)
	wantDecode(t, b[:room-1], room-1, api.ErrText)
	wantNoBytes(t, api.ErrLarge, long(room-8))
	wantNoBytes(t, api.ErrLarge, long(3*room))
	// Each kind of list may be what is too long.
	wantNoBytes(t, api.ErrLarge, api.Module{Types: make([]api.Shape, room/3)})
	wantNoBytes(t, api.ErrLarge, api.Module{Funcs: make([]api.Func, room/5)})
	wantNoBytes(t, api.ErrLarge, api.Module{Funcs: []api.Func{{Code: make([]api.Instr, room/5)}}})
	wantNoBytes(t, api.ErrLarge, api.Module{Funcs: []api.Func{{Code: []api.Instr{{Cases: make([]api.Case, room/4)}}}}})
	wantNoBytes(t, api.ErrLarge, api.Module{Types: []api.Shape{{List: noughts(room)}}})
	wantNoBytes(t, api.ErrLarge, api.Module{Funcs: []api.Func{{Caps: noughts(room)}}})
	// One byte less, by a number that is one byte shorter.
	m = long(room - 10)
	m.Funcs[0].Res = 128
	if b, e := code.Encode(m); len(b) != room || e != api.OK {
		t.Errorf("Encode: %d bytes, %d", len(b), e)
	}
	m.Funcs[0].Res = 1 << 14
	wantNoBytes(t, api.ErrLarge, m)
}

// TestFormAheadOfLarge: a number that has no bytes, wherever it stands in a module that has too many.
func TestFormAheadOfLarge(t *testing.T) {
	for _, n := range []int{0, 1, 1 << 19, 1<<20 - 1, 1 << 20, 1<<20 + 5} {
		m := long(1<<20 + 6)
		m.Funcs[0].Locals[n] = -1
		wantNoBytes(t, api.ErrForm, m)
		m.Funcs[0].Locals[n] = 1 << 31
		wantNoBytes(t, api.ErrForm, m)
	}
	m := long(1 << 20)
	m.Funcs[0].Code = []api.Instr{{}, {Cases: []api.Case{{}, {To: -1}}}}
	wantNoBytes(t, api.ErrForm, m)
	m.Funcs[0].Code[1].Cases[1].To = 0
	wantNoBytes(t, api.ErrLarge, m)
}

func TestDecodeLarge(t *testing.T) {
	const room = 1 << 20
	for _, c := range []byte{0, 1, 127, 128, 255} {
		wantDecode(t, bytes.Repeat([]byte{c}, room+1), 0, api.ErrLarge)
		wantDecode(t, bytes.Repeat([]byte{c}, 3*room), 0, api.ErrLarge)
		b := bytes.Repeat([]byte{c}, room)
		_, at, e := modelDecode(b)
		wantDecode(t, b, at, e)
	}
	wantDecode(t, make([]byte, room), 2, api.ErrText)
}

// TestLongLists: a list that is told to be longer than all that follows ends where the bytes do.
func TestLongLists(t *testing.T) {
	most := []byte{255, 255, 255, 255, 7}
	for _, head := range [][]byte{{}, {1, 6}, {0}, {0, 1, 0}, {0, 1, 0, 0}, {0, 1, 0, 0, 0, 0}, {0, 1, 0, 0, 0, 0, 1, 0, 0, 0, 0}} {
		b := slices.Concat(head, most)
		wantDecode(t, b, len(b), api.ErrText)
		wantDecode(t, append(slices.Clone(b), 1), len(b)+1, api.ErrText)
		wantDecode(t, slices.Concat(head, []byte{128, 128, 128, 128, 8}), len(head), api.ErrText)
		wantDecode(t, slices.Concat(head, []byte{255, 255, 255, 255, 255, 255, 255, 255, 255, 1}), len(head), api.ErrText)
	}
}
