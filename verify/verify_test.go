package verify_test

import (
	"math"
	"slices"
	"testing"

	"mullion/api"
	"mullion/verify"
)

func TestExample(t *testing.T) {
	for _, r := range []struct {
		text string
		at   int
		e    api.Errno
	}{
		{"Num 5; Drop; Ret", 0, api.OK}, {"Drop", 0, api.ErrType}, {"Num 5; Ret", 1, api.ErrType}, {"Num 5; Jump 0", 1, api.ErrType},
	} {
		wantCheck(t, r.text, module(read(r.text)), 0, r.at, r.e)
	}
}

// P13.1: form.

func TestForm(t *testing.T) {
	wantCheck(t, "nothing", api.Module{}, -1, -1, api.ErrForm)
	for n, change := range []func(m *api.Module){
		func(m *api.Module) { m.Funcs = nil },
		func(m *api.Module) { m.Types[3].Kind = 12 },
		func(m *api.Module) { m.Types[ints].List[0] = ints },
		func(m *api.Module) { m.Types[u8].Kind = api.TInt8 },
		func(m *api.Module) { m.Funcs[5].Locals[0] = many },
		func(m *api.Module) { m.Funcs[5].Res = many + 1 },
		func(m *api.Module) { m.Funcs[3].Params = 1 },
		func(m *api.Module) { m.Funcs = slices.Repeat(m.Funcs, 43) },
		func(m *api.Module) { m.Funcs[3].Code = make([]api.Instr, 65536) },
		// What Funcs[0] may not have.
		func(m *api.Module) { m.Funcs[0].Params = 1 },
		func(m *api.Module) { m.Funcs[0].Caps = []int{bo} },
		func(m *api.Module) { m.Funcs[0].Res = 1 },
	} {
		for _, text := range []string{"Ret", "Drop", ""} {
			m := module(read(text))
			change(&m)
			wantCheck(t, n, m, -1, -1, api.ErrForm)
			wantStacks(t, n, m, 0, nil, api.ErrType)
			wantStacks(t, n, m, -1, nil, api.ErrType)
			wantTakes(t, n, m, 0, 0, nil, nil, api.ErrType)
			wantTakes(t, n, m, 99, 0, nil, nil, api.ErrType)
		}
	}
}

// TestFirstFunction: what Funcs[0] may not have others may.
func TestFirstFunction(t *testing.T) {
	m := module(read("Ret"))
	for fn := range m.Funcs {
		x := module(read("Ret"))
		x.Funcs[0], x.Funcs[fn] = x.Funcs[fn], x.Funcs[0]
		if fn == 0 || fn == 3 {
			wantCheck(t, fn, x, 0, 0, api.OK)
			continue
		}
		wantCheck(t, fn, x, -1, -1, api.ErrForm)
	}
	wantCheck(t, "without types", api.Module{Funcs: []api.Func{{Code: read("Ret")}}}, 0, 0, api.OK)
}

// P13.1: instructions.

// use is an instruction, as it may stand in the module of maker_test.go, with what it takes and leaves.
type use struct {
	takes  []int
	text   string
	leaves []int
}

func uses() []use {
	return []use{
		{nil, "Num 1", []int{i8}}, {nil, "Num 6 0 18446744073709551615", []int{u64}},
		{nil, "Flag 0", []int{bo}}, {nil, "Flag 0 0 1", []int{bo}},
		{nil, "Zero 0", []int{bo}}, {nil, "Zero 11", []int{cell}}, {nil, "Zero 19", []int{cf}},
		{nil, "Load 7", []int{pair}}, {[]int{twin}, "Store 8", nil},
		{[]int{cell}, "Drop", nil}, {[]int{none}, "Drop", nil},
		{[]int{i8, i8}, "Arith", []int{i8}}, {[]int{u64, u64}, "Arith 8", []int{u64}},
		{[]int{i8, u64}, "Shift", []int{i8}}, {[]int{i64, i64}, "Shift 1", []int{i64}},
		{[]int{u8, u8}, "Less", []int{bo}},
		{[]int{bo, bo}, "Equal", []int{bo}}, {[]int{cf, cf}, "Equal", []int{bo}}, {[]int{rich, rich}, "Equal", []int{bo}}, {[]int{none, none}, "Equal", []int{bo}},
		{[]int{bo}, "Not", []int{bo}},
		{[]int{i8}, "Convert 6", []int{u64}}, {[]int{i32}, "Convert 3", []int{i32}},
		{[]int{i64, bo}, "Pack 8", []int{twin}}, {nil, "Pack 9", []int{none}}, {[]int{rich, poor}, "Pack 18", []int{deep}},
		{[]int{pair}, "Part", []int{i64}}, {[]int{deep}, "Part 1", []int{poor}},
		{[]int{pair, bo}, "With 1", []int{pair}}, {[]int{deep, rich}, "With 0", []int{deep}},
		{[]int{i8}, "Make 10 1", []int{ints}}, {[]int{u64}, "Make 13 6", []int{ci}},
		{[]int{ints}, "Len 0 5", []int{i64}},
		{[]int{ints, u8}, "At", []int{i64}}, {[]int{ints, i64}, "At", []int{i64}},
		{[]int{ints, i32, i64}, "Put", nil},
		{nil, "Close 0 14", []int{f0}}, {nil, "Close 3 14", []int{f0}}, {[]int{ints}, "Close 4 14", []int{f0}},
		{nil, "Close 1 15", []int{f1}}, {[]int{u8, pair}, "Close 2 15", []int{f1}},
		{[]int{i64}, "Box 11", []int{cell}}, {[]int{cell}, "Open", []int{i64}}, {[]int{cell, i64}, "Fill", nil},
		{nil, "Call 0", nil}, {[]int{i64, bo}, "Call 1", []int{i8}}, {nil, "Call 3", nil}, {nil, "Call 5", []int{i64}},
		{[]int{f0}, "Apply 14", nil}, {[]int{f1, i64, bo}, "Apply 15", []int{i8}},
		{[]int{f0}, "Go 14", nil}, {[]int{f1, i64, bo}, "Go 15", nil},
		{[]int{f0}, "Defer 14", nil}, {[]int{f1, i64, bo}, "Defer 15", nil},
		{[]int{cb, bo}, "Send", nil}, {[]int{ci, i64}, "Send", nil}, {[]int{cf, f0}, "Send", nil},
		{[]int{cb}, "Recv", []int{bo}}, {[]int{cf}, "Recv", []int{f0}}, {[]int{ci}, "Shut", nil},
		{nil, "Caught 0 5", []int{i64}},
		{[]int{bo}, "Print", nil}, {[]int{i8}, "Print", nil}, {[]int{u64}, "Print", nil},
	}
}

// TestInstructions: each instruction on a stack that has what it takes, and what it leaves.
func TestInstructions(t *testing.T) {
	for _, r := range uses() {
		for _, below := range [][]int{nil, {bo}, {i64, i64}, {cell, f1, none}} {
			stack := slices.Concat(below, r.takes)
			behind := slices.Concat(below, r.leaves)
			list := slices.Concat(zeros(stack...), read(r.text), drops(len(behind)), read("Ret"))
			m := module(list)
			at := len(stack)
			wantCheck(t, r.text, m, 0, 0, api.OK)
			wantTakes(t, r.text, m, 0, at, r.takes, r.leaves, api.OK)
			var stacks [][]int
			for n := range at + 1 {
				stacks = append(stacks, stack[:n])
			}
			for n := range len(behind) + 1 {
				stacks = append(stacks, behind[:len(behind)-n])
			}
			wantStacks(t, r.text, m, 0, stacks, api.OK)
			// With one value less ahead of it, it doesn't find what it takes.
			if len(below) == 0 && at > 0 {
				wantCheck(t, r.text, module(slices.Delete(list, 0, 1)), 0, at-1, api.ErrType)
			}
		}
	}
}

// TestOtherPlaces: instructions that name the shape of a flag or of an int64, where these stand at other places.
func TestOtherPlaces(t *testing.T) {
	for _, places := range [][2]int{{1, 2}, {2, 1}, {2, 0}, {1, 0}} {
		b, n := places[0], places[1]
		m := api.Module{Types: []api.Shape{{Kind: 8}, {Kind: 8}, {Kind: 8}, {Kind: 9, List: []int{1}}}}
		m.Types[b].Kind, m.Types[n].Kind = api.TBool, api.TInt64
		for _, r := range []struct {
			i             api.Instr
			takes, leaves []int
		}{
			{api.Instr{Op: 1, A: n, N: 7}, nil, []int{n}}, {api.Instr{Op: 2, A: b, N: 1}, nil, []int{b}},
			{api.Instr{Op: 9, B: b}, []int{n, n}, []int{b}}, {api.Instr{Op: 10, B: b}, []int{b, b}, []int{b}}, {api.Instr{Op: 10, B: b}, []int{n, n}, []int{b}},
			{api.Instr{Op: 17, B: n}, []int{3}, []int{n}}, {api.Instr{Op: 37, B: n}, nil, []int{n}},
		} {
			at := len(r.takes)
			m.Funcs = []api.Func{{Code: slices.Concat(zeros(r.takes...), []api.Instr{r.i}, drops(1), read("Ret"))}}
			wantCheck(t, r.i, m, 0, 0, api.OK)
			wantTakes(t, r.i, m, 0, at, r.takes, r.leaves, api.OK)
			// Two of the three shapes are none that may be named.
			for other := range 3 {
				named := &m.Funcs[0].Code[at].B
				if r.i.A > 0 || r.i.Op < 9 {
					named = &m.Funcs[0].Code[at].A
				}
				if other != *named {
					kept := *named
					*named = other
					wantCheck(t, m.Funcs[0].Code[at], m, 0, at, api.ErrType)
					*named = kept
				}
			}
		}
	}
}

// TestFaults: an instruction whose fields or whose stack are not as told.
func TestFaults(t *testing.T) {
	for _, r := range []struct {
		text   string
		stacks [][]int
	}{
		{"Num 0", [][]int{{}}}, {"Num 7", [][]int{{}}}, {"Num 10", [][]int{{}}}, {"Num -1", [][]int{{}}}, {"Num 20", [][]int{{}}},
		{"Num 1 0 128", [][]int{{}}}, {"Num 1 0 255", [][]int{{}}}, {"Num 1 0 -129", [][]int{{}}}, {"Num 2 0 256", [][]int{{}}}, {"Num 2 0 -1", [][]int{{}}}, {"Num 3 0 2147483648", [][]int{{}}}, {"Num 4 0 -1", [][]int{{}}},
		{"Flag 1", [][]int{{}}}, {"Flag -1", [][]int{{}}}, {"Flag 0 0 2", [][]int{{}}}, {"Flag 0 0 -1", [][]int{{}}},
		{"Zero -1", [][]int{{}}}, {"Zero 20", [][]int{{}}},
		{"Load -1", [][]int{{}}}, {"Load 20", [][]int{{}}},
		{"Store -1", [][]int{{bo}}}, {"Store 20", [][]int{{bo}}}, {"Store 7", [][]int{{}, {twin}, {i64, bo}, {pair, bo}}},
		{"Drop", [][]int{{}}},
		{"Arith 9", [][]int{{i64, i64}}}, {"Arith -1", [][]int{{i64, i64}}},
		{"Arith", [][]int{{}, {i64}, {i64, i8}, {u64, i64}, {bo, bo}, {ints, ints}, {i64, bo}, {bo, i64}, {none, none}}},
		{"Shift 2", [][]int{{i64, i64}}}, {"Shift -1", [][]int{{i64, i64}}}, {"Shift", [][]int{{}, {i64}, {bo, i64}, {i64, bo}, {ints, i64}, {i64, cell}}},
		{"Less 0 1", [][]int{{i8, i8}}}, {"Less 0 -1", [][]int{{i8, i8}}}, {"Less 0 20", [][]int{{i8, i8}}}, {"Less", [][]int{{}, {i8}, {i8, u8}, {bo, bo}, {pair, pair}}},
		{"Equal 0 1", [][]int{{i8, i8}}}, {"Equal 0 -1", [][]int{{i8, i8}}}, {"Equal 0 20", [][]int{{i8, i8}}},
		{"Equal", [][]int{{}, {i8}, {i8, u8}, {pair, twin}, {ints, ints}, {f0, f0}, {f1, f1}, {cell, cell}, {poor, poor}, {deep, deep}, {cb, ci}}},
		{"Not", [][]int{{}, {i8}, {cb}, {none}}},
		{"Convert 0", [][]int{{i8}}}, {"Convert -1", [][]int{{i8}}}, {"Convert 20", [][]int{{i8}}}, {"Convert 1", [][]int{{}, {bo}, {ints}, {pair}}},
		{"Pack 10", [][]int{{i64}}}, {"Pack -1", [][]int{{i64}}}, {"Pack 20", [][]int{{i64}}}, {"Pack 7", [][]int{{}, {bo}, {bo, i64}, {i64, i64}, {i32, bo}}},
		{"Part 2", [][]int{{pair}}}, {"Part -1", [][]int{{pair}}}, {"Part", [][]int{{}, {none}, {i64}, {ints}, {f1}}}, {"Part 1", [][]int{{poor}, {cb}}},
		{"With 2", [][]int{{pair, bo}}}, {"With -1", [][]int{{pair, bo}}}, {"With", [][]int{{}, {i64}, {pair, bo}, {none, i64}, {i64, pair}, {ints, i64}, {f1, i64}}},
		{"Make 7 5", [][]int{{i64}}}, {"Make 11 5", [][]int{{i64}}}, {"Make 14 5", [][]int{{i64}}}, {"Make -1 5", [][]int{{i64}}}, {"Make 20 5", [][]int{{i64}}},
		{"Make 10 0", [][]int{{bo}}}, {"Make 10 -1", [][]int{{i64}}}, {"Make 10 20", [][]int{{i64}}}, {"Make 10 10", [][]int{{ints}}}, {"Make 10 5", [][]int{{}, {i32}, {u64}, {bo}}},
		{"Len 0 6", [][]int{{ints}}}, {"Len 0 0", [][]int{{ints}}}, {"Len 0 -1", [][]int{{ints}}}, {"Len 0 20", [][]int{{ints}}}, {"Len 0 5", [][]int{{}, {ci}, {cell}, {poor}, {i64}}},
		{"At", [][]int{{}, {ints}, {i64}, {ints, bo}, {ints, ints}, {ci, i64}, {cell, i64}, {poor, i64}}},
		{"Put", [][]int{{}, {i64}, {i64, i64}, {ints, i64}, {ints, i64, i32}, {ints, bo, i64}, {ci, i64, i64}, {cell, i64, i64}, {i64, ints, i64}}},
		{"Close -1 14", [][]int{{}}}, {"Close 6 14", [][]int{{}}}, {"Close 3 -1", [][]int{{}}}, {"Close 3 20", [][]int{{}}}, {"Close 3 15", [][]int{{}}}, {"Close 3 9", [][]int{{}}},
		{"Close 1 14", [][]int{{}}}, {"Close 5 14", [][]int{{}}}, {"Close 4 14", [][]int{{}, {i64}, {ci}}}, {"Close 2 15", [][]int{{}, {pair}, {pair, u8}, {u8, twin}, {i8, pair}}}, {"Close 2 14", [][]int{{u8, pair}}},
		{"Box 10", [][]int{{i64}}}, {"Box 13", [][]int{{i64}}}, {"Box -1", [][]int{{i64}}}, {"Box 20", [][]int{{i64}}}, {"Box 11", [][]int{{}, {i32}, {cell}}},
		{"Open", [][]int{{}, {ints}, {ci}, {i64}}}, {"Fill", [][]int{{}, {i64}, {cell}, {cell, i32}, {i64, cell}, {ints, i64}, {ci, i64}}},
		{"Cap", [][]int{{}}}, {"Cap -1", [][]int{{}}}, {"Cap 1", [][]int{{}}},
		{"Call -1", [][]int{{}}}, {"Call 6", [][]int{{}}}, {"Call 2", [][]int{{i64, bo}, {u8, pair, i64, bo}}}, {"Call 4", [][]int{{}, {ints}}}, {"Call 1", [][]int{{}, {bo}, {bo, i64}, {i64, i64}, {i64, bo, i8}}},
		{"Apply 10", [][]int{{f0}}}, {"Apply -1", [][]int{{f0}}}, {"Apply 20", [][]int{{f0}}}, {"Apply 14", [][]int{{}, {f1}, {f0, i64}}}, {"Apply 15", [][]int{{}, {i64, bo}, {f1}, {i64, bo, f1}, {f1, bo, i64}, {f0, i64, bo}, {f1, i64, bo, i8}}},
		{"Go 10", [][]int{{f0}}}, {"Go -1", [][]int{{f0}}}, {"Go 20", [][]int{{f0}}}, {"Go 14", [][]int{{}, {f1}, {f0, i64}}}, {"Go 15", [][]int{{}, {i64, bo}, {f1, bo, i64}, {f0, i64, bo}}},
		{"Defer 10", [][]int{{f0}}}, {"Defer -1", [][]int{{f0}}}, {"Defer 20", [][]int{{f0}}}, {"Defer 14", [][]int{{}, {f1}, {f0, i64}}}, {"Defer 15", [][]int{{}, {i64, bo}, {f1, bo, i64}, {f0, i64, bo}}},
		{"Send", [][]int{{}, {bo}, {cb}, {cb, i64}, {bo, cb}, {ints, i64}, {cell, i64}}},
		{"Recv", [][]int{{}, {ints}, {cell}, {f0}, {bo}}}, {"Shut", [][]int{{}, {ints}, {cell}, {f0}, {bo}}},
		{"Caught 0 6", [][]int{{}}}, {"Caught 0 0", [][]int{{}}}, {"Caught 0 -1", [][]int{{}}}, {"Caught 0 20", [][]int{{}}},
		{"Print", [][]int{{}, {pair}, {ints}, {cb}, {cell}, {f0}, {none}}},
		{"0", [][]int{{}, {i64}}}, {"39", [][]int{{}, {i64}}}, {"-1", [][]int{{}}}, {"9223372036854775807", [][]int{{}}}, {"-9223372036854775808", [][]int{{}}}, {"4294967329", [][]int{{}}},
	} {
		for _, stack := range r.stacks {
			// What stands behind is unsound too: the first fault is told.
			for _, rest := range []string{"Drop; Ret", "Ret", "0; 0", ""} {
				wantCheck(t, r.text, module(slices.Concat(zeros(stack...), read(r.text), read(rest))), 0, len(stack), api.ErrType)
			}
		}
	}
}

// TestNumbersAtTheirEnds: fields that no list is long enough for.
func TestNumbersAtTheirEnds(t *testing.T) {
	for _, n := range []int{math.MinInt, math.MinInt + 1, -1 << 32, -2, 1 << 32, 1<<32 + 5, math.MaxInt - 1, math.MaxInt} {
		for o := -1; o <= 40; o++ {
			for _, i := range []api.Instr{{Op: o, A: n}, {Op: o, B: n}, {Op: o, A: n, B: n}, {Op: n, A: o}, {Op: o, A: n, B: n, N: 1 << 63, Cases: []api.Case{{Chan: n, Val: n, To: n}}}} {
				wantCheck(t, i, module([]api.Instr{i, {Op: 35}}), 0, 0, api.ErrType)
			}
		}
		for _, c := range []api.Case{{Chan: n, Val: i64}, {Chan: ci, Val: n}, {Chan: ci, Val: i64, To: n}} {
			for _, send := range []bool{false, true} {
				c.Send = send
				wantCheck(t, c, module([]api.Instr{{Op: 32, Cases: []api.Case{c}}, {Op: 35}}), 0, 0, api.ErrType)
			}
		}
	}
}

// TestFieldsThatAreNotNamed: each is 0, and there are no cases.
func TestFieldsThatAreNotNamed(t *testing.T) {
	stacks := map[string][]int{
		"Num 1": {}, "Flag": {}, "Zero": {}, "Load": {}, "Store": {bo}, "Drop": {i64}, "Arith": {i64, i64}, "Shift": {i64, i64},
		"Less": {i64, i64}, "Equal": {i64, i64}, "Not": {bo}, "Convert 1": {i64}, "Pack 9": {}, "Part": {pair}, "With": {pair, i64},
		"Make 10 5": {i64}, "Len 0 5": {ints}, "At": {ints, i64}, "Put": {ints, i64, i64}, "Close 3 14": {}, "Box 11": {i64},
		"Open": {cell}, "Fill": {cell, i64}, "Call 3": {}, "Apply 14": {f0}, "Go 14": {f0}, "Defer 14": {f0}, "Send": {cb, bo},
		"Recv": {cb}, "Shut": {cb}, "Select 0 1": {}, "Jump": {}, "If": {bo}, "Ret": {}, "Throw": {i64}, "Caught 0 5": {}, "Print": {i64},
	}
	named := map[string]string{
		"Num 1": "AN", "Flag": "AN", "Make 10 5": "AB", "Close 3 14": "AB", "Less": "B", "Equal": "B", "Len 0 5": "B", "Caught 0 5": "B",
		"Drop": "", "Not": "", "At": "", "Put": "", "Open": "", "Fill": "", "Send": "", "Recv": "", "Shut": "", "Ret": "", "Throw": "", "Print": "", "Select 0 1": "BC",
	}
	for text, stack := range stacks {
		fields, isTold := named[text]
		if !isTold {
			fields = "A"
		}
		sound := module(slices.Concat(zeros(stack...), read(text), read("Ret")))
		if _, at, e := verify.Check(sound); e != api.OK && at == len(stack) {
			t.Errorf("%s is at fault as it is", text)
		}
		for _, change := range []struct {
			field string
			i     api.Instr
		}{
			{"A", api.Instr{A: 1}}, {"A", api.Instr{A: -1}}, {"A", api.Instr{A: 1 << 32}}, {"B", api.Instr{B: 1}}, {"B", api.Instr{B: -1}}, {"B", api.Instr{B: 1 << 32}},
			{"N", api.Instr{N: 1}}, {"N", api.Instr{N: 1 << 32}}, {"N", api.Instr{N: 1 << 63}}, {"C", api.Instr{Cases: make([]api.Case, 1)}},
		} {
			i := read(text)[0]
			i.A, i.B, i.N, i.Cases = i.A+change.i.A, i.B+change.i.B, i.N+change.i.N, change.i.Cases
			isNamed := slices.Contains([]byte(fields), change.field[0])
			if !isNamed {
				wantCheck(t, i, module(slices.Concat(zeros(stack...), []api.Instr{i}, read("Ret"))), 0, len(stack), api.ErrType)
			}
		}
	}
	if len(stacks) != len(names)-1 {
		t.Errorf("%d instructions are looked at", len(stacks))
	}
	// Cap stands in a function that has captured values.
	for _, change := range []api.Instr{{Op: 24, B: 1}, {Op: 24, N: 1}, {Op: 24, Cases: make([]api.Case, 1)}, {Op: 24, A: 2}, {Op: 24, A: -1}} {
		m := module(read("Ret"))
		m.Funcs[2].Code[0] = change
		wantCheck(t, change, m, 2, 0, api.ErrType)
	}
}

// TestNumbersOfKinds: the words of Num are numbers of their kinds.
func TestNumbersOfKinds(t *testing.T) {
	for _, r := range []struct {
		shape int
		n     uint64
		isOne bool
	}{
		{i8, 127, true}, {i8, 128, false}, {i8, 1<<64 - 128, true}, {i8, 1<<64 - 129, false},
		{u8, 255, true}, {u8, 256, false}, {u8, 1<<64 - 1, false},
		{i32, 1<<31 - 1, true}, {i32, 1 << 31, false}, {i32, 1<<64 - 1<<31, true}, {i32, 1<<64 - 1<<31 - 1, false},
		{u32, 1<<32 - 1, true}, {u32, 1 << 32, false}, {i64, 1 << 63, true}, {u64, 1<<64 - 1, true}, {bo, 0, false}, {pair, 0, false}, {cell, 0, false},
	} {
		m := module([]api.Instr{{Op: 1, A: r.shape, N: r.n}, {Op: 6}, {Op: 35}})
		e := api.ErrType
		if r.isOne {
			e = api.OK
		}
		wantCheck(t, r, m, 0, 0, e)
	}
}

// TestOperators: each operator of Arith and Shift there is, and none besides, for each kind.
func TestOperators(t *testing.T) {
	for _, r := range []struct{ o, many int }{{7, 9}, {8, 2}} {
		for a := -2; a < 12; a++ {
			for w := i8; w <= u64; w++ {
				m := module(slices.Concat(zeros(w, w), []api.Instr{{Op: r.o, A: a}, {Op: 6}, {Op: 35}}))
				if 0 <= a && a < r.many {
					wantCheck(t, a, m, 0, 0, api.OK)
				} else {
					wantCheck(t, a, m, 0, 2, api.ErrType)
				}
			}
		}
	}
}
