package verify_test

import (
	"math/big"
	"slices"
	"strings"

	"mullion/api"
	"mullion/code"
)

// The model is the chapter's table: for each instruction what A, B and N are, and patterns of what it takes and leaves, which are held against a stack from the left to the right. A capital letter is what that field names; w, v, T and so on are found on the stack, and stand for the same where they stand again.

type row struct {
	a, b, n, takes, leaves string
}

var rows = map[string]row{
	"Num": {"whole", "", "word", "", "A"}, "Flag": {"bool", "", "bit", "", "A"}, "Zero": {"shape", "", "", "", "A"},
	"Load": {"local", "", "", "", "local"}, "Store": {"local", "", "", "local", ""}, "Drop": {"", "", "", "any", ""},
	"Arith": {"9", "", "", "w w", "w"}, "Shift": {"2", "", "", "v w", "v"}, "Less": {"", "bool", "", "w w", "B"}, "Equal": {"", "bool", "", "T T", "B"},
	"Not": {"", "", "", "bool", "bool"}, "Convert": {"whole", "", "", "v", "A"},
	"Pack": {"struct", "", "", "parts", "A"}, "Part": {"number", "", "", "struct", "field"}, "With": {"number", "", "", "struct field", "struct"},
	"Make": {"slice chan", "whole", "", "B", "A"}, "Len": {"", "int64", "", "slice", "B"}, "At": {"", "", "", "slice w", "of"}, "Put": {"", "", "", "slice w of", ""},
	"Close": {"function", "func", "", "caps", "B"}, "Box": {"box", "", "", "inner", "A"}, "Open": {"", "", "", "box", "of"}, "Fill": {"", "", "", "box of", ""},
	"Cap": {"cap", "", "", "", "cap"}, "Call": {"function", "", "", "params", "result"},
	"Apply": {"func", "", "", "A parts", "res"}, "Go": {"func", "", "", "A parts", ""}, "Defer": {"func", "", "", "A parts", ""},
	"Send": {"", "", "", "chan of", ""}, "Recv": {"", "", "", "chan", "of"}, "Shut": {"", "", "", "chan", ""},
	"Select": {"", "default", "", "", ""}, "Jump": {"place", "", "", "", ""}, "If": {"place", "", "", "bool", ""}, "Ret": {"", "", "", "ret", ""}, "Throw": {"", "", "", "int64", ""},
	"Caught": {"", "int64", "", "", "B"}, "Print": {"", "", "", "told", ""},
}

// kinds are what a shape may be asked to be.
var kinds = map[string][]int{
	"bool": {1}, "int64": {6}, "struct": {8}, "slice": {9}, "chan": {10}, "func": {11}, "box": {13},
	"whole": {2, 3, 4, 5, 6, 7}, "w": {2, 3, 4, 5, 6, 7}, "v": {2, 3, 4, 5, 6, 7}, "told": {1, 2, 3, 4, 5, 6, 7},
	"any": {1, 2, 3, 4, 5, 6, 7, 8, 9, 10, 11, 13}, "T": {1, 2, 3, 4, 5, 6, 7, 8, 10},
}

// modelRow answers the row of an instruction.
func modelRow(o int) (name string, r row, isOne bool) {
	if o < 1 || o > len(names) {
		return "", row{}, false
	}
	return names[o-1], rows[names[o-1]], true
}

// model is one function of a module.
type model struct {
	m api.Module
	f api.Func
}

// isKind tells whether t is a shape that is as asked.
func (d model) isKind(t int, asked string) bool {
	return t >= 0 && t < len(d.m.Types) && slices.Contains(kinds[asked], d.m.Types[t].Kind) && (asked != "T" || d.isComparable(t))
}

func (d model) isComparable(t int) bool {
	s := d.m.Types[t]
	switch s.Kind {
	case 9, 11, 13:
		return false
	case 8:
		for _, f := range s.List {
			if !d.isComparable(f) {
				return false
			}
		}
	}
	return true
}

// isField tells whether A or B is what the table asks for.
func (d model) isField(n int, asked string) bool {
	switch asked {
	case "":
		return n == 0
	case "9", "2":
		return n >= 0 && n < int(asked[0]-'0')
	case "local":
		return n >= 0 && n < len(d.f.Locals)
	case "cap":
		return n >= 0 && n < len(d.f.Caps)
	case "function":
		return n >= 0 && n < len(d.m.Funcs)
	case "place":
		return n >= 0 && n < len(d.f.Code)
	case "default":
		return n >= 0 && n <= len(d.f.Code)
	case "number":
		return n >= 0 && n < 16
	case "shape":
		return n >= 0 && n < len(d.m.Types)
	}
	return slices.ContainsFunc(strings.Fields(asked), func(one string) bool { return d.isKind(n, one) })
}

// isWord tells whether n is as carried on from the lowest bits of a number that the Kind has.
func isWord(kind int, n uint64) bool {
	x := new(big.Int).SetUint64(n)
	if kind%2 == 0 && n >= 1<<63 {
		x.Sub(x, new(big.Int).Lsh(big.NewInt(1), 64))
	}
	bits := []uint{8, 8, 32, 32, 64, 64}[kind-2]
	least, most := big.NewInt(0), new(big.Int).Lsh(big.NewInt(1), bits)
	if kind%2 == 0 {
		most.Rsh(most, 1)
		least.Neg(most)
	}
	return x.Cmp(least) >= 0 && x.Cmp(most) < 0
}

// areFields tells whether all fields of an instruction are what the table asks for.
func (d model) areFields(name string, r row, i api.Instr) bool {
	if !d.isField(i.A, r.a) || !d.isField(i.B, r.b) || name != "Select" && len(i.Cases) > 0 {
		return false
	}
	switch {
	case r.n == "word" && !isWord(d.m.Types[i.A].Kind, i.N), r.n == "bit" && i.N > 1, r.n == "" && i.N != 0:
		return false
	}
	switch name {
	case "Select":
		return len(i.Cases) <= 16 && !slices.ContainsFunc(i.Cases, func(c api.Case) bool { return !d.isCase(c) })
	case "Close":
		f, s := d.m.Funcs[i.A], d.m.Types[i.B]
		return f.Res == s.Res && slices.Equal(f.Locals[:f.Params], s.List)
	case "Call":
		return len(d.m.Funcs[i.A].Caps) == 0
	}
	return true
}

func (d model) isCase(c api.Case) bool {
	if !d.isField(c.Chan, "local") || !d.isField(c.To, "place") {
		return false
	}
	of := d.m.Types[d.f.Locals[c.Chan]]
	if of.Kind != 10 {
		return false
	}
	return !c.Send && c.Val == -1 || d.isField(c.Val, "local") && d.f.Locals[c.Val] == of.List[0]
}

// spread answers a pattern in which what is several values, or stands in a field, is written as its shapes; what the stack tells is left as -1, with its name.
func (d model) spread(pattern string, i api.Instr) (shapes []int, words []string) {
	for _, p := range strings.Fields(pattern) {
		list := []int{-1}
		result := 0
		switch p {
		case "A":
			list = []int{i.A}
		case "B":
			list = []int{i.B}
		case "local":
			list = []int{d.f.Locals[i.A]}
		case "cap":
			list = []int{d.f.Caps[i.A]}
		case "parts":
			list = d.m.Types[i.A].List
		case "inner":
			list = d.m.Types[i.A].List
		case "caps":
			list = d.m.Funcs[i.A].Caps
		case "params":
			list = d.m.Funcs[i.A].Locals[:d.m.Funcs[i.A].Params]
		case "result":
			list, result = nil, d.m.Funcs[i.A].Res
		case "res":
			list, result = nil, d.m.Types[i.A].Res
		case "ret":
			list, result = nil, d.f.Res
		}
		if result > 0 {
			list = []int{result - 1}
		}
		shapes = append(shapes, list...)
		words = append(words, slices.Repeat([]string{p}, len(list))...)
	}
	return shapes, words
}

// bound is what words stand for, by the stack.
type bound map[string]int

// find answers what a word stands for by what stands for others: -1, if nothing is known.
func (d model) find(word string, known bound, i api.Instr) int {
	if t, isKnown := known[word]; isKnown {
		return t
	}
	for _, of := range []string{"slice", "chan", "box"} {
		if t, isKnown := known[of]; isKnown && word == "of" {
			return d.m.Types[t].List[0]
		}
	}
	if t, isKnown := known["struct"]; isKnown && word == "field" && i.A < len(d.m.Types[t].List) {
		return d.m.Types[t].List[i.A]
	}
	return -1
}

// do answers what the instruction takes and leaves on that stack, if it is as told.
func (d model) do(i api.Instr, stack []int) (takes, leaves []int, isOK bool) {
	name, r, isOne := modelRow(i.Op)
	if !isOne || !d.areFields(name, r, i) {
		return nil, nil, false
	}
	want, words := d.spread(r.takes, i)
	if len(want) > len(stack) {
		return nil, nil, false
	}
	takes = stack[len(stack)-len(want):]
	known := bound{}
	for n, t := range takes {
		asked := want[n]
		if asked < 0 {
			asked = d.find(words[n], known, i)
		}
		if asked != t && (asked >= 0 || !d.isKind(t, words[n])) {
			return nil, nil, false
		}
		known[words[n]] = t
	}
	leaves, words = d.spread(r.leaves, i)
	leaves = slices.Clone(leaves)
	for n, t := range leaves {
		if t < 0 {
			leaves[n] = d.find(words[n], known, i)
		}
		if leaves[n] < 0 {
			return nil, nil, false
		}
	}
	isAlone := len(takes) == len(stack) || !slices.Contains([]string{"Select", "Jump", "If", "Ret", "Throw"}, name)
	return takes, leaves, isAlone
}

// isJumpedTo tells whether the instruction is a place of a jump.
func (d model) isJumpedTo(at int) bool {
	return slices.ContainsFunc(d.f.Code, func(i api.Instr) bool {
		name, _, _ := modelRow(i.Op)
		switch name {
		case "Jump", "If":
			return i.A == at
		case "Select":
			return i.B == at+1 || slices.ContainsFunc(i.Cases, func(c api.Case) bool { return c.To == at })
		}
		return false
	})
}

// effect is what is told of an instruction.
type effect struct {
	stack, takes, leaves []int
}

// walk answers the effects of all instructions, or those ahead of the first fault.
func (d model) walk() (all []effect, isOK bool) {
	var stack []int
	for at, i := range d.f.Code {
		takes, leaves, isTold := d.do(i, stack)
		isFull := len(stack) > 64
		isOff := len(stack) > 0 && d.isJumpedTo(at)
		name, _, _ := modelRow(i.Op)
		isOpen := at == len(d.f.Code)-1 && !slices.Contains([]string{"Jump", "Ret", "Throw"}, name)
		if !isTold || isFull || isOff || isOpen {
			return all, false
		}
		all = append(all, effect{stack, takes, leaves})
		stack = slices.Concat(stack[:len(stack)-len(takes)], leaves)
	}
	return all, len(all) > 0
}

func modelCheck(m api.Module) (fn, at int, e api.Errno) {
	if code.Check(m) != api.OK || m.Funcs[0].Params+len(m.Funcs[0].Caps)+m.Funcs[0].Res > 0 {
		return -1, -1, api.ErrForm
	}
	for fn, f := range m.Funcs {
		if all, isOK := (model{m, f}).walk(); !isOK {
			return fn, len(all), api.ErrType
		}
	}
	return 0, 0, api.OK
}
