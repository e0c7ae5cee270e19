package verify_test

import (
	"slices"
	"testing"

	"mullion/api"
	"mullion/verify"
)

// P13.1: limits.

const mostValues = 64

// values is so many int64s that are put onto the stack.
func values(n int) []api.Instr {
	return zeros(slices.Repeat([]int{i64}, n)...)
}

// TestStackLimit: an instruction whose stack is too large is at fault, not the one ahead.
func TestStackLimit(t *testing.T) {
	for n := mostValues - 2; n <= mostValues; n++ {
		wantCheck(t, n, module(slices.Concat(values(n), drops(n), read("Ret"))), 0, 0, api.OK)
	}
	for n := mostValues + 1; n < mostValues+4; n++ {
		wantCheck(t, n, module(slices.Concat(values(n), drops(n), read("Ret"))), 0, mostValues+1, api.ErrType)
		wantCheck(t, n, module(slices.Concat(values(n), read("Ret"))), 0, mostValues+1, api.ErrType)
	}
	// The last one has no next, and may not be the last.
	wantCheck(t, "last", module(values(mostValues+1)), 0, mostValues, api.ErrType)
	// Whatever puts one value too many onto the stack.
	m := module(nil)
	for _, text := range []string{"Num 5", "Flag", "Zero", "Load 5", "Pack 9", "Close 3 14", "Call 5", "Caught 0 5"} {
		m.Funcs[0].Code = slices.Concat(values(mostValues-1), read(text), drops(mostValues), read("Ret"))
		wantCheck(t, text, m, 0, 0, api.OK)
		m.Funcs[0].Code = slices.Concat(values(mostValues), read(text), drops(mostValues+1), read("Ret"))
		wantCheck(t, text, m, 0, mostValues+1, api.ErrType)
	}
	// What goes makes room again, also on a full stack.
	full := slices.Concat(values(mostValues), read("Arith; Zero 5; Convert 6; Drop; Zero 5; Arith 3"), drops(mostValues-1), read("Ret"))
	wantCheck(t, "full", module(full), 0, 0, api.OK)
	stacks, e := verify.Stacks(module(full), 0)
	if e != api.OK || len(stacks[mostValues]) != mostValues || len(stacks[mostValues+1]) != mostValues-1 {
		t.Errorf("Stacks: %d", e)
	}
}

// TestWideFunctions: functions that take more than a stack has.
func TestWideFunctions(t *testing.T) {
	for _, n := range []int{17, mostValues - 1, mostValues, mostValues + 1, 1024} {
		wide := slices.Repeat([]int{i64}, n)
		for _, r := range []struct {
			text   string
			f      api.Func
			leaves []int
		}{
			{"Call 6", api.Func{Params: n, Locals: wide, Code: read("Ret")}, nil},
			{"Close 6 14", api.Func{Caps: wide, Code: read("Ret")}, []int{f0}},
		} {
			m := module(slices.Concat(values(n), read(r.text), drops(len(r.leaves)), read("Ret")))
			m.Funcs = append(m.Funcs, r.f)
			if n <= mostValues {
				wantCheck(t, r.text, m, 0, 0, api.OK)
				wantTakes(t, r.text, m, 0, n, wide, r.leaves, api.OK)
				continue
			}
			wantCheck(t, r.text, m, 0, mostValues+1, api.ErrType)
			m.Funcs[0].Code = slices.Concat(values(mostValues), read(r.text), read("Ret"))
			wantCheck(t, r.text, m, 0, mostValues, api.ErrType)
		}
		// A shape takes at most 16: none is that of a function that takes more.
		m := module(read("Close 6 15; Drop; Ret"))
		m.Funcs = append(m.Funcs, api.Func{Params: n, Locals: wide, Res: i8 + 1, Code: read("Num 1; Ret")})
		wantCheck(t, n, m, 0, 0, api.ErrType)
	}
	most := slices.Repeat([]int{i64}, 16)
	m := module(read("Close 6 20; Apply 20; Ret"))
	m.Types = append(m.Types, api.Shape{Kind: 11, List: most})
	m.Funcs = append(m.Funcs, api.Func{Params: 16, Locals: most, Code: read("Ret")})
	m.Funcs[0].Code = slices.Concat(read("Close 6 20"), values(16), read("Apply 20; Ret"))
	wantCheck(t, "16", m, 0, 0, api.OK)
	wantTakes(t, "16", m, 0, 17, slices.Concat([]int{many}, most), nil, api.OK)
	m.Funcs[0].Code = slices.Concat(values(1), read("Close 6 20"), values(15), read("Apply 20; Ret"))
	wantCheck(t, "16", m, 0, 17, api.ErrType)
}

// TestLongCode: as many instructions as a module may have, in one function and in many.
func TestLongCode(t *testing.T) {
	const room = api.MaxCode
	m := api.Module{Types: shapes(), Funcs: []api.Func{{Code: slices.Concat(slices.Repeat(read("Num 5; Drop"), room/2-1), read("Ret; Jump 65532"))}}}
	wantCheck(t, "long", m, 0, 0, api.OK)
	stacks, e := verify.Stacks(m, 0)
	if e != api.OK || len(stacks) != room || len(stacks[room-3]) != 1 || len(stacks[room-2]) != 0 {
		t.Errorf("Stacks: %d, %d", len(stacks), e)
	}
	wantTakes(t, "long", m, 0, room-3, []int{i64}, nil, api.OK)
	wantTakes(t, "long", m, 0, room, nil, nil, api.ErrRange)
	m.Funcs[0].Code[room-1].A = room
	wantCheck(t, "long", m, 0, room-1, api.ErrType)
	m.Funcs[0].Code[room-1].A = room - 3
	wantCheck(t, "long", m, 0, room-3, api.ErrType)
	m.Funcs[0].Code = append(m.Funcs[0].Code, api.Instr{Op: 35})
	wantCheck(t, "too long", m, -1, -1, api.ErrForm)

	each := room / api.MaxFuncs
	m.Funcs = nil
	for fn := range api.MaxFuncs {
		m.Funcs = append(m.Funcs, api.Func{Code: slices.Concat(slices.Repeat([]api.Instr{{Op: 25, A: fn}}, each-1), read("Jump 5"))})
	}
	wantCheck(t, "many", m, 0, 0, api.OK)
	m.Funcs[255].Code[each-1] = api.Instr{Op: 25}
	wantCheck(t, "many", m, 255, each-1, api.ErrType)
}

// TestDeepShapes: each shape has sixteen of the one ahead, and no cell.
func TestDeepShapes(t *testing.T) {
	for _, bottom := range []api.Shape{{Kind: 8}, {Kind: 9, List: []int{0}}, {Kind: 13, List: []int{0}}, {Kind: 11}} {
		m := api.Module{Types: []api.Shape{{Kind: 1}, bottom}}
		for t := 1; len(m.Types) < api.MaxTypes && (bottom.Kind == 8 || t < 3); t++ {
			width := 16
			if bottom.Kind != 8 {
				width = 4
			}
			m.Types = append(m.Types, api.Shape{Kind: 8, List: slices.Repeat([]int{t}, width)})
		}
		last := len(m.Types) - 1
		m.Funcs = []api.Func{{Code: slices.Concat(zeros(last, last), read("Equal; Print; Ret"))}}
		if bottom.Kind == 8 {
			wantCheck(t, "nothing", m, 0, 0, api.OK)
			wantTakes(t, "nothing", m, 0, 2, []int{last, last}, []int{0}, api.OK)
			continue
		}
		wantCheck(t, bottom, m, 0, 2, api.ErrType)
	}
}

// TestManyCases: a Select with more cases than there is memory for their places, were each kept.
func TestManyCases(t *testing.T) {
	cases := make([]api.Case, 1<<21)
	for n := range cases {
		cases[n].To = n * 5
	}
	wantCheck(t, "cases", module(slices.Concat(read("Jump 1"), []api.Instr{{Op: 32, Cases: cases}, {Op: 35}})), 0, 1, api.ErrType)
	// Each is a place of a jump, as there are too many.
	wantCheck(t, "cases", module(slices.Concat(read("Num 5; Num 5; Drop; Drop; Num 5; Drop"), []api.Instr{{Op: 32, Cases: cases}, {Op: 35}})), 0, 5, api.ErrType)
}
