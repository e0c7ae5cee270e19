package verify_test

import (
	"slices"
	"testing"

	"mullion/api"
)

// P13.1: where a code goes on.

// TestFlow: codes of Funcs[0], which has no result, and where their first fault is; -1: nowhere.
func TestFlow(t *testing.T) {
	for _, r := range []struct {
		text string
		at   int
	}{
		// What is last.
		{"", 0}, {"Ret", -1}, {"Jump 0", -1}, {"Num 5; Throw", -1},
		{"Num 5", 0}, {"Num 5; Drop", 1}, {"Call 3", 0}, {"Flag; If 0", 1}, {"Select 0 1", 0}, {"Select", 0}, {"Ret; Select", 1}, {"Ret; Jump 0; Num 5; Drop", 3}, {"Ret; Call 0", 1},
		{"Select; Ret", -1}, {"Flag; If 0; Ret", -1}, {"Flag; If 2; Ret", -1},
		// Jumps, behind which the stack is empty.
		{"Jump 1; Ret", -1}, {"Jump 2; Ret; Jump 1", -1}, {"Ret; Jump 0", -1}, {"Jump 1", 0}, {"Jump 2; Ret", 0}, {"Jump -1; Ret", 0}, {"Ret; Jump 3; Jump 9", 1}, {"Ret; Jump 2; Jump 9", 2},
		{"Num 5; Jump 2; Ret", 1}, {"Flag; Jump 0; Ret", 1}, {"Jump 2; Drop; Ret", 1}, {"Jump 3; Num 5; Drop; Ret", -1}, {"Jump 2; Flag; If 0; Ret", 2},
		// If takes a flag alone.
		{"If 0; Ret", 0}, {"Num 5; If 0; Ret", 1}, {"Num 5; Flag; If 0; Ret", 2}, {"Flag; Flag; If 0; Ret", 2}, {"Flag; If 3; Ret", 1}, {"Flag; If -1; Ret", 1},
		{"Flag; If 3; Ret; Ret", -1}, {"Flag; If 2; Num 5; Drop; Ret", -1}, {"Flag; If 1; Ret", 1}, {"Zero 10; If 0; Ret", 1}, {"Flag; If 0; Drop; Ret", 2},
		// Ret takes the result alone, Throw an int64 alone.
		{"Num 5; Ret", 1}, {"Num 5; Ret; Ret", 1}, {"Throw", 0}, {"Num 6; Throw", 1}, {"Num 3; Throw", 1}, {"Flag; Throw", 1}, {"Num 5; Num 5; Throw", 2}, {"Flag; Num 5; Throw", 2},
		{"Num 5; Throw; Drop; Ret", 2}, {"Num 5; Throw; Num 5; Drop; Ret", -1}, {"Ret; Drop", 1}, {"Ret; Num 5; Drop; Ret", -1}, {"Ret; Num 5; Ret", 2}, {"Ret; Num 5; Drop; Num 5", 3},
		// A place of a jump whose stack is not empty: that place is at fault, wherever the jump stands.
		{"Num 5; Drop; Jump 1", 1}, {"Jump 2; Num 5; Drop; Ret", 2}, {"Num 5; Num 5; Drop; Drop; Jump 3", 3}, {"Num 5; Drop; Jump 0", -1}, {"Num 5; Drop; Jump 2", -1},
		{"Num 5; Drop; Flag; If 1; Ret", 1}, {"Num 5; Drop; Select 0 2; Ret", 1}, {"Num 5; Drop; Select r:13:-1:0 r:13:-1:1; Ret", 1}, {"Num 5; Drop; Ret; Ret; Jump 1", 1}, {"Num 5; Jump 1", 1},
		{"Num 5; Drop; Select 0 1 r:13:-1:0; Ret", -1}, {"Num 5; Drop; Select r:13:-1:2; Ret", -1},
		// Also of one that is at fault itself, or in what else it has.
		{"Num 5; Drop; Jump 1 1; Ret", 1}, {"Num 5; Drop; Num 5; Jump 1; Ret", 1}, {"Num 5; Drop; If 1; Ret", 1}, {"Num 5; Drop; Select 7 2; Ret", 1}, {"Num 5; Drop; Select r:13:-1:9 r:0:-1:1; Ret", 1},
		// What is no place: fields of others, and 0 in a Select's B.
		{"Num 5; Drop; Ret; Arith 1", 3}, {"Num 5; Drop; Select 1; Ret", 2}, {"Num 5; Drop; Select; Ret", -1}, {"Num 5; Drop; Jump 2 0 0 r:13:-1:1; Ret", 2}, {"Num 5; Drop; Ret; Select 0 -1", 3},
		// The first fault is told.
		{"Drop; Drop; Jump 9", 0}, {"Num 0; Drop; Jump 1", 0}, {"Num 5; Num 0; Drop; Jump 0 5", 1}, {"Num 5; Drop 1; Jump 1", 1},
	} {
		if r.at < 0 {
			wantCheck(t, r.text, module(read(r.text)), 0, 0, api.OK)
			continue
		}
		wantCheck(t, r.text, module(read(r.text)), 0, r.at, api.ErrType)
	}
}

// TestSelect: local n is of the shape n.
func TestSelect(t *testing.T) {
	for _, r := range []struct {
		text string
		isOK bool
	}{
		{"Select", true}, {"Select 0 1", true}, {"Select 0 2", true}, {"Select 0 3", false}, {"Select 0 -1", false}, {"Select 0 -2", false}, {"Select 1", false}, {"Select 0 0 1", false},
		{"Select s:12:0:0", true}, {"Select s:13:5:1", true}, {"Select r:12:0:1", true}, {"Select r:13:5:0", true}, {"Select r:13:-1:0", true}, {"Select s:19:14:0", true},
		{"Select s:13:-1:0", false}, {"Select r:13:-2:0", false}, {"Select s:13:-2:0", false}, {"Select r:13:20:0", false}, {"Select s:13:20:0", false},
		{"Select s:13:3:0", false}, {"Select r:13:3:0", false}, {"Select s:12:5:0", false}, {"Select r:12:5:0", false}, {"Select r:13:13:0", false},
		{"Select r:10:5:0", false}, {"Select s:10:5:0", false}, {"Select r:11:5:0", false}, {"Select s:5:5:0", false}, {"Select r:0:-1:0", false}, {"Select r:14:-1:0", false}, {"Select r:-1:-1:0", false}, {"Select r:20:-1:0", false},
		{"Select r:13:-1:2", false}, {"Select r:13:-1:-1", false}, {"Select s:13:5:2", false},
		{"Select 0 2 s:13:5:0 r:13:-1:1 r:12:0:0", true}, {"Select 0 2 s:13:5:0 r:13:-1:1 r:12:1:0", false}, {"Select 0 2 s:13:5:0 r:13:-1:2 r:12:0:0", false}, {"Select 0 3 s:13:5:0", false},
	} {
		at, e := 0, api.ErrType
		if r.isOK {
			e = api.OK
		}
		wantCheck(t, r.text, module(slices.Concat(read(r.text), read("Ret"))), 0, at, e)
		// It finds nothing on the stack.
		wantCheck(t, r.text, module(slices.Concat(read("Ret; Num 5"), read(r.text), read("Drop; Ret"))), 0, 2, api.ErrType)
	}
	for n, want := range map[int]api.Errno{15: api.OK, 16: api.OK, 17: api.ErrType, 300: api.ErrType} {
		i := api.Instr{Op: 32, Cases: slices.Repeat([]api.Case{{Chan: ci, Val: -1, To: 1}}, n)}
		wantCheck(t, n, module([]api.Instr{i, {Op: 35}}), 0, 0, want)
	}
}

// TestResults: Ret takes what its own function gives.
func TestResults(t *testing.T) {
	for _, r := range []struct {
		res  int
		text string
		at   int
	}{
		{0, "Ret", -1}, {0, "Num 5; Ret", 1}, {i64 + 1, "Num 5; Ret", -1}, {i64 + 1, "Ret", 0}, {i64 + 1, "Num 4; Ret", 1}, {i64 + 1, "Num 5; Num 5; Ret", 2}, {i64 + 1, "Num 4; Num 5; Ret", 2},
		{pair + 1, "Zero 7; Ret", -1}, {pair + 1, "Zero 8; Ret", 1}, {bo + 1, "Flag; Ret", -1}, {bo + 1, "Num 5; Throw", -1}, {bo + 1, "Jump 0", -1}, {bo + 1, "Flag; Jump 0", 1}, {bo + 1, "Call 3; Ret", 1},
	} {
		m := module(read("Ret"))
		m.Funcs = append(m.Funcs, api.Func{Res: r.res, Code: read(r.text)})
		if r.at < 0 {
			wantCheck(t, r.text, m, 0, 0, api.OK)
			continue
		}
		wantCheck(t, r.text, m, 6, r.at, api.ErrType)
	}
}

// TestFunctionsInOrder: the first function that has a fault is told; jumps, locals and captured values are of each function's own.
func TestFunctionsInOrder(t *testing.T) {
	bad := module(read("Num 5; Drop; Ret"))
	for fn := 5; fn >= 0; fn-- {
		bad.Funcs[fn].Code = slices.Concat(slices.Repeat(read("Jump 0"), fn), read("Drop"))
		wantCheck(t, fn, bad, fn, fn, api.ErrType)
	}
	m := module(read("Num 5; Drop; Ret"))
	m.Funcs[3].Code = read("Jump 1; Ret")
	wantCheck(t, "a jump of another function", m, 0, 0, api.OK)
	m.Funcs[3].Code = read("Load 0; Drop; Ret")
	wantCheck(t, "a local of another function", m, 3, 0, api.ErrType)
	m.Funcs[3].Code = read("Cap 0; Drop; Ret")
	wantCheck(t, "a captured value of another function", m, 3, 0, api.ErrType)
	m.Funcs[3].Code = nil
	wantCheck(t, "no code", m, 3, 0, api.ErrType)
	m = module(nil)
	wantCheck(t, "no code at first", m, 0, 0, api.ErrType)
	wantStacks(t, "no code at first", m, 0, nil, api.ErrType)
}

// TestCaptured: Cap answers what is captured, by its place.
func TestCaptured(t *testing.T) {
	m := module(read("Ret"))
	m.Funcs[2].Code = read("Cap 1; Cap 0; Drop; Drop; Num 1; Ret")
	wantStacks(t, "Cap", m, 2, [][]int{{}, {pair}, {pair, u8}, {pair}, {}, {i8}}, api.OK)
	wantTakes(t, "Cap", m, 2, 1, nil, []int{u8}, api.OK)
	m.Funcs[2].Code = read("Cap 1; Cap 2; Drop; Drop; Num 1; Ret")
	wantCheck(t, "Cap", m, 2, 1, api.ErrType)
	m.Funcs[2].Code = read("Cap 1; Cap -1; Drop; Drop; Num 1; Ret")
	wantCheck(t, "Cap", m, 2, 1, api.ErrType)
}

// P13.2.

func TestStacks(t *testing.T) {
	m := module(read("Flag; If 6; Num 5; Num 1; Shift; Throw; Select 0 1 r:13:-1:2; Call 5; Drop; Ret"))
	wantStacks(t, "all", m, 0, [][]int{{}, {bo}, {}, {i64}, {i64, i8}, {i64}, {}, {}, {i64}, {}}, api.OK)
	wantStacks(t, "all", m, 1, [][]int{{}, {i8}}, api.OK)
	wantStacks(t, "all", m, 5, [][]int{{}, {i64}}, api.OK)
	for _, fn := range []int{-1, 6, 7, -1 << 63, 1<<63 - 1, 1 << 32} {
		wantStacks(t, fn, m, fn, nil, api.ErrRange)
		wantTakes(t, fn, m, fn, 0, nil, nil, api.ErrRange)
		wantTakes(t, fn, m, fn, -1, nil, nil, api.ErrRange)
	}
	// A fault in one function is told for all of them, ahead of a place that is none.
	m.Funcs[4].Code = read("Drop")
	for _, fn := range []int{0, 1, 4, 5, 6, -1} {
		wantStacks(t, fn, m, fn, nil, api.ErrType)
		wantTakes(t, fn, m, fn, 0, nil, nil, api.ErrType)
		wantTakes(t, fn, m, fn, 99, nil, nil, api.ErrType)
	}
}

func TestTakes(t *testing.T) {
	m := module(read("Flag; If 6; Num 5; Num 1; Shift; Throw; Select 0 1 r:13:-1:2; Call 5; Drop; Jump 2"))
	for at, r := range [][2][]int{
		{nil, {bo}}, {{bo}, nil}, {nil, {i64}}, {nil, {i8}}, {{i64, i8}, {i64}}, {{i64}, nil}, {nil, nil}, {nil, {i64}}, {{i64}, nil}, {nil, nil},
	} {
		wantTakes(t, at, m, 0, at, r[0], r[1], api.OK)
	}
	wantTakes(t, "Ret", m, 1, 1, []int{i8}, nil, api.OK)
	wantTakes(t, "Ret", m, 3, 0, nil, nil, api.OK)
	for _, at := range []int{-1, 10, 11, -1 << 63, 1<<63 - 1, 1 << 32} {
		wantTakes(t, at, m, 0, at, nil, nil, api.ErrRange)
	}
	wantTakes(t, "behind the end", m, 3, 1, nil, nil, api.ErrRange)
}
