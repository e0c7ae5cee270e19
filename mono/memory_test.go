package mono_test

import (
	"reflect"
	"testing"

	"mullion/api"
	"mullion/mono"
)

const manyInstances = `
type P struct { x int; y []bool }
type Q struct { p P; q P; f func(P, P) P }
func f[T any, U any, V any](x T, y U, z V) { g[T](); g[T](); g[U](); h() }
func g[T any]() { k[[]T, []T](); k[[]T, Q](); k[chan Q, []Q]() }
func k[T any, U any]() { }
func h() { x := g2; f(x, x, P{1, make([]bool, 1)}) }
func g2(x P, y Q) Q { return y }
func main() { var p P; var q Q; f(p, q, p); f(q, q, q); k[P, P](); k[Q, Q](); k[[]Q, chan func(P, P) P]() }
`

// items tells where the items of lists of types, and of all lists in them, stand, spare room included.
func items(list []api.Type) []any {
	var all []any
	list = list[:cap(list)]
	for i, t := range list {
		all = append(append(append(all, &list[i]), items(t.List)...), items(t.Res)...)
		fields := t.Fields[:cap(t.Fields)]
		for j, f := range fields {
			all = append(all, &fields[j])
			inner := items([]api.Type{f.Type})
			all = append(all, inner[1:]...)
		}
	}
	return all
}

func TestAnswersShareNothing(t *testing.T) {
	n := fine(t, manyInstances)
	seen := map[any]int{}
	for range 2 {
		list, _, e := mono.Expand(n)
		if e != api.OK || len(list) < 19 {
			t.Fatalf("%d, %d instances", e, len(list))
		}
		for i, one := range list {
			seen[&list[i]]++
			for _, p := range items(one.Args) {
				seen[p]++
			}
		}
		for _, one := range list[:cap(list)][len(list):] {
			if !reflect.DeepEqual(one, api.Inst{}) {
				t.Errorf("spare room of an answer: %+v", one)
			}
		}
	}
	for p, times := range seen {
		if times > 1 {
			t.Fatalf("%v stands in %d lists", p, times)
		}
	}
}

// roomy answers n in new memory, all lists with spare room, and marks in it.
func roomy(n api.Node) api.Node {
	mark := api.Node{Kind: 30, Text: "spare"}
	list := []api.Node{}
	for _, p := range n.List {
		list = append(list, roomy(p))
	}
	n.List = append(list, mark, mark)[:len(n.List)]
	return n
}

// whole answers n with spare room shown, in new memory.
func whole(n api.Node) api.Node {
	var list []api.Node
	for _, p := range n.List[:cap(n.List)] {
		list = append(list, whole(p))
	}
	n.List = list
	return n
}

func TestArgumentsAreLeftAlone(t *testing.T) {
	for _, s := range []string{manyInstances, "func f[T any](x T) { f(make([]T, 1)) }\nfunc main() { f(1) }", "func main() { }"} {
		n := roomy(fine(t, s))
		before := whole(n)
		first, name, e := mono.Expand(n)
		many, e2 := mono.Count(n)
		if !reflect.DeepEqual(before, whole(n)) {
			t.Errorf("a tree is changed: %.99s", s)
		}
		// What is answered stays, whatever becomes of the tree.
		kept, _, _ := mono.Expand(n)
		for _, p := range pointers(&n) {
			*p = api.Node{}
		}
		if !reflect.DeepEqual(first, kept) {
			t.Errorf("two answers to one tree: %v, %v", first, kept)
		}
		again, name2, e3 := mono.Expand(fine(t, s))
		if !reflect.DeepEqual(first, again) || name != name2 || e != e2 || e != e3 || many != len(first) {
			t.Errorf("answers to one tree: %d, %d, %d; %q, %q; %d", e, e2, e3, name, name2, many)
		}
	}
}

// TestEmptyLists: nil and empty are the same.
func TestEmptyLists(t *testing.T) {
	n := fine(t, manyInstances)
	first, _, e := mono.Expand(n)
	for _, p := range pointers(&n) {
		if len(p.List) == 0 {
			p.List = []api.Node{}
		}
	}
	again, _, e2 := mono.Expand(n)
	if !reflect.DeepEqual(first, again) || e != e2 {
		t.Errorf("%d, %d; %q, %q", e, e2, told(t, first), told(t, again))
	}
}

// TestWhole: the instances with all that they are.
func TestWhole(t *testing.T) {
	n := fine(t, "type P struct { x int; y []bool }\nfunc f[T any, U any](x T, y U) { }\nfunc main() { var p P; f(1, p); f(func(x chan P, y int8) bool { return true }, p.y) }")
	kind := func(k int, parts ...api.Type) api.Type { return api.Type{Kind: k, List: parts} }
	flags := kind(api.TSlice, kind(api.TBool))
	p := api.Type{Kind: api.TStruct, Name: "P", Fields: []api.Field{{Name: "x", Type: kind(api.TInt64)}, {Name: "y", Type: flags}}}
	fn := api.Type{Kind: api.TFunc, List: []api.Type{kind(api.TChan, p), kind(api.TInt8)}, Res: []api.Type{kind(api.TBool)}}
	want := []api.Inst{{Name: "main"}, {Name: "f", Args: []api.Type{kind(api.TInt64), p}}, {Name: "f", Args: []api.Type{fn, flags}}}
	if list, name, e := mono.Expand(n); !reflect.DeepEqual(list, want) || name != "" || e != api.OK {
		t.Errorf("Expand = %+v, %q, %d, not %+v", list, name, e, want)
	}
}
