package verify_test

import (
	"math/rand"
	"reflect"
	"slices"
	"testing"

	"mullion/api"
	"mullion/verify"
)

// roomy answers a list in new memory, with two marks in its spare room.
func roomy[T any](list []T, mark T) []T {
	out := append(slices.Clone(list), mark, mark)
	return out[:len(list)]
}

// roomyModule answers m in new memory, with marks in the spare room of all lists.
func roomyModule(m api.Module) api.Module {
	m.Types = roomy(m.Types, api.Shape{Kind: 77})
	for t := range m.Types {
		m.Types[t].List = roomy(m.Types[t].List, -7)
	}
	m.Funcs = roomy(m.Funcs, api.Func{Params: 77})
	for fn := range m.Funcs {
		f := &m.Funcs[fn]
		f.Locals, f.Caps, f.Code = roomy(f.Locals, -7), roomy(f.Caps, -7), roomy(f.Code, api.Instr{Op: 77})
		for n := range f.Code {
			f.Code[n].Cases = roomy(f.Code[n].Cases, api.Case{Chan: 77})
		}
	}
	return m
}

// shown answers m in new memory, with the spare room of all lists as parts of them.
func shown(m api.Module) api.Module {
	m.Types = slices.Clone(m.Types[:cap(m.Types)])
	for t := range m.Types {
		m.Types[t].List = slices.Clone(m.Types[t].List[:cap(m.Types[t].List)])
	}
	m.Funcs = slices.Clone(m.Funcs[:cap(m.Funcs)])
	for fn := range m.Funcs {
		f := &m.Funcs[fn]
		f.Locals, f.Caps, f.Code = slices.Clone(f.Locals[:cap(f.Locals)]), slices.Clone(f.Caps[:cap(f.Caps)]), slices.Clone(f.Code[:cap(f.Code)])
		for n := range f.Code {
			f.Code[n].Cases = slices.Clone(f.Code[n].Cases[:cap(f.Code[n].Cases)])
		}
	}
	return m
}

func TestArgumentsAreLeftAlone(t *testing.T) {
	for seed := range 60 {
		r := rand.New(rand.NewSource(int64(seed)))
		m := roomyModule(someModule(r))
		if seed%2 == 1 {
			spoil(r, m)
		}
		before := shown(m)
		_, _, _ = verify.Check(m)
		for fn, f := range m.Funcs {
			_, _ = verify.Stacks(m, fn)
			for at := range f.Code {
				_, _, _ = verify.Takes(m, fn, at)
			}
		}
		if !reflect.DeepEqual(before, shown(m)) {
			t.Errorf("%d is changed", seed)
		}
	}
}

// scrawl writes over a list, spare room included.
func scrawl(list []int) {
	list = list[:cap(list)]
	for n := range list {
		list[n] = -9
	}
}

// TestStacksShareNothing: no stack is changed by what is written into another one, nor is the module.
func TestStacksShareNothing(t *testing.T) {
	for seed := range 40 {
		m := someModule(rand.New(rand.NewSource(int64(seed))))
		before := shown(m)
		for fn := range m.Funcs {
			want, _ := verify.Stacks(m, fn)
			got, _ := verify.Stacks(m, fn)
			for at := range got {
				if !slices.Equal(got[at], want[at]) {
					t.Fatalf("%d: the stack of %d at %d is changed", seed, fn, at)
				}
				scrawl(got[at])
			}
		}
		if !reflect.DeepEqual(before, shown(m)) {
			t.Errorf("%d is changed", seed)
		}
		wantAsModel(t, seed, m)
	}
}

// TestTakesShareNothing: likewise.
func TestTakesShareNothing(t *testing.T) {
	for seed := range 40 {
		m := someModule(rand.New(rand.NewSource(int64(seed))))
		before := shown(m)
		for fn, f := range m.Funcs {
			for at := range f.Code {
				takes, leaves, _ := verify.Takes(m, fn, at)
				kept := slices.Clone(leaves)
				scrawl(takes)
				if !slices.Equal(leaves, kept) {
					t.Errorf("%d: what %d at %d leaves is changed", seed, fn, at)
				}
				scrawl(leaves)
			}
		}
		if !reflect.DeepEqual(before, shown(m)) {
			t.Errorf("%d is changed", seed)
		}
		wantAsModel(t, seed, m)
	}
}

// TestSharedLists: a module whose lists are one list.
func TestSharedLists(t *testing.T) {
	one := []int{0, 0}
	list := read("Num 0; Num 0; Close 1 2; Drop; Ret")
	list[0].A, list[1].A = 0, 0
	m := api.Module{Types: []api.Shape{{Kind: 6}, {Kind: 8, List: one}, {Kind: 11}}, Funcs: []api.Func{{Locals: one, Code: list}, {Locals: one, Caps: one, Code: list}}}
	wantCheck(t, "shared", m, 0, 0, api.OK)
	wantStacks(t, "shared", m, 1, [][]int{{}, {0}, {0, 0}, {2}, {}}, api.OK)
	wantTakes(t, "shared", m, 1, 2, one, []int{2}, api.OK)
}
