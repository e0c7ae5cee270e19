package code_test

import (
	"math/rand"
	"slices"

	"mullion/api"
)

// shape makes a shape; res is what stands in Res.
func shape(kind, res int, list ...int) api.Shape {
	return api.Shape{Kind: kind, List: list, Res: res}
}

// shapes makes a module with these shapes and one function without anything.
func shapes(list ...api.Shape) api.Module {
	return api.Module{Types: list, Funcs: make([]api.Func, 1)}
}

// function makes a module of bool, int8 and a slice of it, and these functions.
func functions(list ...api.Func) api.Module {
	return api.Module{Types: []api.Shape{shape(1, 0), shape(2, 0), shape(9, 0, 1)}, Funcs: list}
}

// full is a module in which each number is another one, as far as it may be: it is not sound.
func full() api.Module {
	return api.Module{
		Types: []api.Shape{shape(100, 7, 8, 9), shape(101, 10), shape(102, 0, 300)},
		Funcs: []api.Func{
			{},
			{Params: 20, Locals: []int{21, 22}, Caps: []int{23}, Res: 24, Code: []api.Instr{
				{Op: 25, A: 26, B: 27, N: 28},
				{Op: 29, A: 30, B: 31, N: 1 << 63, Cases: []api.Case{
					{Send: true, Chan: 32, Val: 33, To: 34}, {Chan: 35, Val: 36, To: 37},
				}},
			}},
			{Params: 38, Locals: []int{39}, Caps: []int{40, 41}, Res: 42},
		},
	}
}

// someSound makes a module that is sound.
func someSound(r *rand.Rand) api.Module {
	var m api.Module
	for range r.Intn(14) {
		s := someShape(r, len(m.Types))
		m.Types = append(m.Types, s)
		m.Funcs = make([]api.Func, 1)
		if !modelIsSound(m) {
			m.Types = m.Types[:len(m.Types)-1]
		}
	}
	m.Funcs = nil
	for range 1 + r.Intn(4) {
		f := api.Func{Locals: someOf(r, len(m.Types), 6), Caps: someOf(r, len(m.Types), 3), Res: r.Intn(len(m.Types) + 1), Code: someCode(r)}
		f.Params = r.Intn(len(f.Locals) + 1)
		m.Funcs = append(m.Funcs, f)
	}
	return m
}

// someShape makes a shape that may stand behind so many others, as far as it does not hang on what they are.
func someShape(r *rand.Rand, behind int) api.Shape {
	if behind == 0 || r.Intn(4) == 0 {
		return shape(1+r.Intn(7), 0)
	}
	kind := []int{8, 8, 8, 9, 10, 11, 11, 13}[r.Intn(8)]
	switch kind {
	case 8:
		return shape(kind, 0, someOf(r, behind, 16)...)
	case 11:
		return shape(kind, r.Intn(behind+1), someOf(r, behind, 4)...)
	}
	return shape(kind, 0, r.Intn(behind))
}

// someOf makes a list of numbers below n.
func someOf(r *rand.Rand, n, most int) []int {
	var list []int
	for range r.Intn(most + 1) {
		if n > 0 {
			list = append(list, r.Intn(n))
		}
	}
	return list
}

// someNumber makes a number that has bytes, from least on; often at an edge.
func someNumber(r *rand.Rand, least int) int {
	edges := []int{least, least, 0, 1, 126, 127, 128, 129, 1<<14 - 2, 1<<14 - 1, 1 << 14, 1 << 21, 1<<28 - 1, 1 << 28, top - 1, top}
	if r.Intn(2) == 0 {
		return edges[r.Intn(len(edges))]
	}
	return r.Intn(1 << r.Intn(31))
}

// someWord makes a word of any size.
func someWord(r *rand.Rand) uint64 {
	return r.Uint64()>>r.Intn(64) - uint64(r.Intn(2))
}

func someCode(r *rand.Rand) []api.Instr {
	var code []api.Instr
	for range r.Intn(4) {
		i := api.Instr{Op: someNumber(r, 0), A: someNumber(r, -1), B: someNumber(r, -1), N: someWord(r)}
		for range r.Intn(3) {
			i.Cases = append(i.Cases, api.Case{Send: r.Intn(2) == 0, Chan: someNumber(r, 0), Val: someNumber(r, -1), To: someNumber(r, 0)})
		}
		code = append(code, i)
	}
	return code
}

// someModule makes a module that has bytes, sound or not.
func someModule(r *rand.Rand) api.Module {
	if r.Intn(4) == 0 {
		return someSound(r)
	}
	numbers := func() []int {
		var list []int
		for range r.Intn(4) {
			list = append(list, someNumber(r, 0))
		}
		return list
	}
	var m api.Module
	for range r.Intn(4) {
		m.Types = append(m.Types, shape(someNumber(r, 0), someNumber(r, 0), numbers()...))
	}
	for range r.Intn(4) {
		m.Funcs = append(m.Funcs, api.Func{Params: someNumber(r, 0), Locals: numbers(), Caps: numbers(), Res: someNumber(r, 0), Code: someCode(r)})
	}
	return m
}

// noughts is a list of so many 0s.
func noughts(n int) []int {
	return slices.Repeat([]int{0}, n)
}
