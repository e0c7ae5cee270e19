package verify_test

import (
	"slices"
	"strconv"
	"strings"
	"testing"

	"mullion/api"
	"mullion/verify"
)

// names are the instructions, from 1 on.
var names = strings.Fields("Num Flag Zero Load Store Drop Arith Shift Less Equal Not Convert Pack Part With Make Len At Put Close Box Open Fill Cap Call Apply Go Defer Send Recv Shut Select Jump If Ret Throw Caught Print")

// read reads instructions with semicolons between: a name, then A, B and N, as far as they are not 0. A case of a Select is s (it sends) or r, and its local, value and place, each behind a colon.
func read(text string) []api.Instr {
	var list []api.Instr
	for part := range strings.SplitSeq(text, ";") {
		words := strings.Fields(part)
		if len(words) > 0 {
			list = append(list, instruction(words))
		}
	}
	return list
}

func instruction(words []string) api.Instr {
	i := api.Instr{Op: 1 + slices.Index(names, words[0])}
	if i.Op == 0 {
		i.Op = number(words[0])
	}
	fields := []func(string){
		func(s string) { i.A = number(s) },
		func(s string) { i.B = number(s) },
		func(s string) { i.N = word(s) },
	}
	for _, s := range words[1:] {
		if p := strings.Split(s, ":"); len(p) == 4 {
			i.Cases = append(i.Cases, api.Case{Send: p[0] == "s", Chan: number(p[1]), Val: number(p[2]), To: number(p[3])})
			continue
		}
		fields[0](s)
		fields = fields[1:]
	}
	return i
}

func number(s string) int {
	n, err := strconv.Atoi(s)
	if err != nil {
		panic(err)
	}
	return n
}

// word reads a word, also one that is written as a number below 0.
func word(s string) uint64 {
	if n, err := strconv.ParseInt(s, 10, 64); err == nil {
		return uint64(n)
	}
	n, err := strconv.ParseUint(s, 10, 64)
	if err != nil {
		panic(err)
	}
	return n
}

// The shapes of the module that most tests are about.
const (
	bo   = iota
	i8   // int8
	u8   // uint8
	i32  // int32
	u32  // uint32
	i64  // int64
	u64  // uint64
	pair // a struct of an int64 and a bool
	twin // the same, another shape
	none // a struct of nothing
	ints // a slice of int64
	cell // a box of int64
	cb   // a chan of bool
	ci   // a chan of int64
	f0   // a func that takes nothing
	f1   // a func that takes an int64 and a bool, and gives an int8
	rich // a struct of a chan and a pair
	poor // a struct of a slice
	deep // a struct of rich and poor
	cf   // a chan of funcs
	many // how many there are
)

func shapes() []api.Shape {
	list := make([]api.Shape, many)
	for t := bo; t <= u64; t++ {
		list[t].Kind = t + 1
	}
	list[pair] = api.Shape{Kind: 8, List: []int{i64, bo}}
	list[twin] = api.Shape{Kind: 8, List: []int{i64, bo}}
	list[none] = api.Shape{Kind: 8}
	list[ints] = api.Shape{Kind: 9, List: []int{i64}}
	list[cell] = api.Shape{Kind: 13, List: []int{i64}}
	list[cb] = api.Shape{Kind: 10, List: []int{bo}}
	list[ci] = api.Shape{Kind: 10, List: []int{i64}}
	list[f0] = api.Shape{Kind: 11}
	list[f1] = api.Shape{Kind: 11, List: []int{i64, bo}, Res: i8 + 1}
	list[rich] = api.Shape{Kind: 8, List: []int{cb, pair}}
	list[poor] = api.Shape{Kind: 8, List: []int{ints}}
	list[deep] = api.Shape{Kind: 8, List: []int{rich, poor}}
	list[cf] = api.Shape{Kind: 10, List: []int{f0}}
	return list
}

// module is of these shapes, and functions: 0 has the code and a local of each shape; 1 and 2 are funcs f1, 2 with two captured values; 3 and 4 are funcs f0, 4 with a captured value; 5 takes nothing and gives an int64.
func module(list []api.Instr) api.Module {
	locals := make([]int, many)
	for t := range locals {
		locals[t] = t
	}
	return api.Module{Types: shapes(), Funcs: []api.Func{
		{Locals: locals, Code: list},
		{Params: 2, Locals: []int{i64, bo, i8}, Res: i8 + 1, Code: read("Load 2; Ret")},
		{Params: 2, Locals: []int{i64, bo}, Caps: []int{u8, pair}, Res: i8 + 1, Code: read("Cap 1; Drop; Num 1; Ret")},
		{Code: read("Ret")},
		{Caps: []int{ints}, Code: read("Jump 0")},
		{Locals: []int{i64}, Res: i64 + 1, Code: read("Num 5; Throw")},
	}}
}

// zeros puts zeros of these shapes onto the stack.
func zeros(list ...int) []api.Instr {
	var out []api.Instr
	for _, t := range list {
		out = append(out, api.Instr{Op: 3, A: t})
	}
	return out
}

// drops has so many values go.
func drops(n int) []api.Instr {
	return slices.Repeat([]api.Instr{{Op: 6}}, n)
}

func wantCheck(t *testing.T, what any, m api.Module, fn, at int, e api.Errno) {
	t.Helper()
	gotFn, gotAt, gotE := verify.Check(m)
	if gotFn != fn || gotAt != at || gotE != e {
		t.Errorf("%v: Check = %d, %d, %d, not %d, %d, %d", what, gotFn, gotAt, gotE, fn, at, e)
	}
}

func wantStacks(t *testing.T, what any, m api.Module, fn int, stacks [][]int, e api.Errno) {
	t.Helper()
	got, gotE := verify.Stacks(m, fn)
	if gotE != e || !slices.EqualFunc(got, stacks, slices.Equal) {
		t.Errorf("%v: Stacks of %d = %v, %d, not %v, %d", what, fn, got, gotE, stacks, e)
	}
}

func wantTakes(t *testing.T, what any, m api.Module, fn, at int, takes, leaves []int, e api.Errno) {
	t.Helper()
	gotTakes, gotLeaves, gotE := verify.Takes(m, fn, at)
	if gotE != e || !slices.Equal(gotTakes, takes) || !slices.Equal(gotLeaves, leaves) {
		t.Errorf("%v: Takes of %d at %d = %v, %v, %d, not %v, %v, %d", what, fn, at, gotTakes, gotLeaves, gotE, takes, leaves, e)
	}
}
