package verify_test

import (
	"math/rand"
	"slices"
	"strconv"
	"testing"

	"mullion/api"
	"mullion/verify"
)

// maker writes the code of a function by chance, instruction by instruction, as the model takes them.
type maker struct {
	r     *rand.Rand
	model model
	stack []int
	code  []api.Instr
	empty []int // instructions whose stack is empty
}

// add puts an instruction behind the others, if the model takes it there.
func (k *maker) add(i api.Instr) bool {
	takes, leaves, isOK := k.model.do(i, k.stack)
	if !isOK {
		return false
	}
	if len(k.stack) == 0 {
		k.empty = append(k.empty, len(k.code))
	}
	k.stack = slices.Concat(k.stack[:len(k.stack)-len(takes)], leaves)
	k.code = append(k.code, i)
	return true
}

// value puts a value of that shape onto the stack.
func (k *maker) value(t int) {
	if n := slices.Index(k.model.f.Locals, t); n >= 0 && k.r.Intn(3) == 0 {
		k.add(api.Instr{Op: 4, A: n})
		return
	}
	k.add(api.Instr{Op: 3, A: t})
}

// use puts an instruction behind the others, with what it takes ahead of it.
func (k *maker) use(u use) {
	for _, t := range u.takes {
		k.value(t)
	}
	k.add(read(u.text)[0])
	if len(k.stack) > 0 && k.r.Intn(3) == 0 {
		k.add(api.Instr{Op: 5, A: slices.Index(k.model.f.Locals, k.stack[len(k.stack)-1])})
	}
}

// drain has the stack be empty.
func (k *maker) drain() {
	for len(k.stack) > 0 {
		k.add(api.Instr{Op: 6})
	}
}

// leap leaves nothing on the stack; its places are set when all instructions are there.
func (k *maker) leap() {
	k.drain()
	switch k.r.Intn(6) {
	case 0:
		k.add(api.Instr{Op: 33})
	case 1:
		k.value(bo)
		k.add(api.Instr{Op: 34})
	case 2, 3:
		i := api.Instr{Op: 32, B: k.r.Intn(2)}
		for range k.r.Intn(5) {
			c := api.Case{Send: k.r.Intn(2) == 0, Chan: k.r.Intn(len(k.model.f.Locals) + 1), Val: k.r.Intn(len(k.model.f.Locals)+2) - 1}
			if k.model.isCase(c) {
				i.Cases = append(i.Cases, c)
			}
		}
		k.add(i)
	case 4:
		k.end()
	case 5:
		k.value(i64)
		k.add(api.Instr{Op: 36})
	}
}

// end has the function return.
func (k *maker) end() {
	k.drain()
	if k.model.f.Res > 0 {
		k.value(k.model.f.Res - 1)
	}
	k.add(api.Instr{Op: 35})
}

// land sets the places of all jumps.
func (k *maker) land() {
	to := func() int { return k.empty[k.r.Intn(len(k.empty))] }
	for n := range k.code {
		i := &k.code[n]
		switch names[i.Op-1] {
		case "Jump", "If":
			i.A = to()
		case "Select":
			if i.B > 0 {
				i.B = to() + 1
			}
			for c := range i.Cases {
				i.Cases[c].To = to()
			}
		}
	}
}

// someCode writes the code of the function fn.
func someCode(r *rand.Rand, m api.Module, fn int, all []use) []api.Instr {
	f := m.Funcs[fn]
	f.Code = make([]api.Instr, 1)
	k := &maker{r: r, model: model{m, f}}
	for range r.Intn(12) {
		switch r.Intn(5) {
		case 0:
			k.leap()
		case 1:
			for range 30 {
				k.add(api.Instr{Op: 1 + r.Intn(31), A: r.Intn(many+2) - 1, B: []int{0, 0, i64}[r.Intn(3)], N: uint64(r.Intn(2))})
			}
		default:
			if len(k.stack) < 40 {
				k.use(all[r.Intn(len(all))])
			}
		}
		if len(k.stack) > 50 {
			k.drain()
		}
	}
	k.end()
	k.land()
	return k.code
}

// someOf is a list of shapes.
func someOf(r *rand.Rand, most int) []int {
	var list []int
	for range r.Intn(most + 1) {
		list = append(list, r.Intn(many))
	}
	return list
}

// someModule makes a module that is verified.
func someModule(r *rand.Rand) api.Module {
	m := module(nil)
	all := uses()
	for range 2 + r.Intn(3) {
		f := api.Func{Locals: someOf(r, 8), Caps: someOf(r, 2), Res: r.Intn(many + 1)}
		f.Params = r.Intn(len(f.Locals) + 1)
		fn, s := len(m.Funcs), len(m.Types)
		m.Funcs = append(m.Funcs, f)
		m.Types = append(m.Types, api.Shape{Kind: 11, List: f.Locals[:f.Params], Res: f.Res})
		if slices.ContainsFunc(m.Types[:s], func(o api.Shape) bool {
			return o.Kind == 11 && o.Res == f.Res && slices.Equal(o.List, m.Types[s].List)
		}) {
			m.Types = m.Types[:s]
			continue
		}
		call := slices.Concat([]int{s}, m.Types[s].List)
		all = append(all, use{text: "Call " + strconv.Itoa(fn), takes: m.Types[s].List}, use{text: "Close " + strconv.Itoa(fn) + " " + strconv.Itoa(s), takes: f.Caps})
		all = append(all, use{text: "Apply " + strconv.Itoa(s), takes: call}, use{text: "Go " + strconv.Itoa(s), takes: call}, use{text: "Cap"})
	}
	for fn := range m.Funcs {
		m.Funcs[fn].Code = someCode(r, m, fn, all)
	}
	return m
}

// wantAsModel holds all that verify tells of m against the model.
func wantAsModel(t *testing.T, what any, m api.Module) {
	t.Helper()
	fn, at, e := modelCheck(m)
	wantCheck(t, what, m, fn, at, e)
	if e != api.OK {
		wantStacks(t, what, m, 0, nil, api.ErrType)
		wantTakes(t, what, m, 0, 0, nil, nil, api.ErrType)
		return
	}
	for fn, f := range m.Funcs {
		all, _ := model{m, f}.walk()
		var stacks [][]int
		for at, x := range all {
			stacks = append(stacks, x.stack)
			if len(all) < 80 {
				wantTakes(t, what, m, fn, at, x.takes, x.leaves, api.OK)
			}
		}
		wantStacks(t, what, m, fn, stacks, api.OK)
	}
}

func TestModulesByChance(t *testing.T) {
	used := map[string]int{}
	for seed := range 80 {
		m := someModule(rand.New(rand.NewSource(int64(seed))))
		if fn, at, e := verify.Check(m); e != api.OK {
			t.Errorf("%d: %d, %d, %d: %+v", seed, fn, at, e, m.Funcs[max(fn, 0)])
		}
		wantAsModel(t, seed, m)
		for _, f := range m.Funcs {
			for _, i := range f.Code {
				used[names[i.Op-1]]++
			}
		}
	}
	for _, name := range names {
		if used[name] < 10 {
			t.Errorf("%s is used %d times", name, used[name])
		}
	}
}

// spoil changes one thing in m, whose functions' lists are its own.
func spoil(r *rand.Rand, m api.Module) {
	f := &m.Funcs[r.Intn(len(m.Funcs))]
	if len(f.Code) == 0 {
		return
	}
	at := r.Intn(len(f.Code))
	i := &f.Code[at]
	to := func() int {
		return []int{-2, -1, 0, 1, 2, 5, 7, many - 1, many, r.Intn(many), r.Intn(len(f.Code) + 1)}[r.Intn(11)]
	}
	switch r.Intn(12) {
	case 0:
		i.Op = r.Intn(41) - 1
	case 1, 2:
		i.A = to()
	case 3:
		i.B = to()
	case 4:
		i.N = []uint64{1, 2, 127, 128, 1 << 63, 1<<64 - 1}[r.Intn(6)]
	case 5:
		f.Code = slices.Delete(f.Code, at, at+1)
	case 6:
		f.Code = slices.Insert(f.Code, at, *i)
	case 7:
		other := &f.Code[r.Intn(len(f.Code))]
		*i, *other = *other, *i
	case 8:
		f.Res = r.Intn(many + 1)
	case 9:
		f.Params = r.Intn(len(f.Locals) + 1)
	case 10:
		if len(f.Locals) > 0 {
			f.Locals[r.Intn(len(f.Locals))] = r.Intn(many)
		}
	case 11:
		spoilCase(r, f, to)
	}
}

// spoilCase changes one number in a Select.
func spoilCase(r *rand.Rand, f *api.Func, to func() int) {
	for n, i := range f.Code {
		if len(i.Cases) == 0 {
			continue
		}
		cases := slices.Clone(i.Cases)
		c := &cases[r.Intn(len(cases))]
		switch r.Intn(4) {
		case 0:
			c.Chan = to()
		case 1:
			c.Val = to()
		case 2:
			c.To = to()
		case 3:
			c.Send = !c.Send
		}
		f.Code[n].Cases = cases
		return
	}
}

// own answers m with functions whose lists are its own.
func own(m api.Module) api.Module {
	m.Funcs = slices.Clone(m.Funcs)
	for fn := range m.Funcs {
		f := &m.Funcs[fn]
		f.Code, f.Locals = slices.Clone(f.Code), slices.Clone(f.Locals)
	}
	return m
}

func TestModulesThatAreSpoilt(t *testing.T) {
	told := map[api.Errno]int{}
	for seed := range 120 {
		r := rand.New(rand.NewSource(int64(seed)))
		m := someModule(r)
		for n := range 25 {
			bad := own(m)
			for range 1 + r.Intn(2) {
				spoil(r, bad)
			}
			fn, at, e := modelCheck(bad)
			wantCheck(t, []int{seed, n}, bad, fn, at, e)
			told[e]++
		}
	}
	if told[api.OK] < 100 || told[api.ErrType] < 1000 || told[api.ErrForm] < 10 {
		t.Errorf("told: %v", told)
	}
}

// TestSmallStacks: each instruction on each stack of up to two values, and some on each of three.
func TestSmallStacks(t *testing.T) {
	stacks := [][]int{nil}
	for a := range many {
		stacks = append(stacks, []int{a})
		for b := range many {
			stacks = append(stacks, []int{a, b})
		}
	}
	check := func(stack []int, i api.Instr) {
		m := module(slices.Concat(zeros(stack...), []api.Instr{i, {Op: 35}}))
		fn, at, e := modelCheck(m)
		wantCheck(t, i, m, fn, at, e)
	}
	for o := -1; o <= 40; o++ {
		for a := -1; a <= many; a++ {
			for b := -1; b <= many; b++ {
				check(nil, api.Instr{Op: o, A: a, B: b})
				check([]int{i64}, api.Instr{Op: o, A: a, B: b})
			}
		}
		for _, stack := range stacks {
			check(stack, api.Instr{Op: o})
			check(stack, api.Instr{Op: o, A: 1})
			check(stack, api.Instr{Op: o, B: i64})
		}
	}
	for _, stack := range stacks {
		for c := range many {
			three := slices.Concat(stack, []int{c})
			check(three, api.Instr{Op: 19})
			check(three, api.Instr{Op: 26, A: f1})
		}
	}
}
