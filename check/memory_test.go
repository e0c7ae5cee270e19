package check_test

import (
	"reflect"
	"testing"

	"mullion/api"
	"mullion/check"
	"mullion/parse"
)

// roomy answers n in new memory, all lists with spare room, and marks in it.
func roomy(n api.Node) api.Node {
	mark := api.Node{Kind: 30, Text: "spare"}
	list := []api.Node{}
	for _, p := range n.List {
		list = append(list, roomy(p))
	}
	n.List = append(list, mark, mark)[:len(n.List)]
	return n
}

// whole answers n with spare room shown, in new memory.
func whole(n api.Node) api.Node {
	var list []api.Node
	for _, p := range n.List[:cap(n.List)] {
		list = append(list, whole(p))
	}
	n.List = list
	return n
}

// items tells where the items of lists of types, and of all lists in them, stand, spare room included.
func items(list []api.Type) []any {
	var all []any
	list = list[:cap(list)]
	for i, t := range list {
		all = append(append(append(all, &list[i]), items(t.List)...), items(t.Res)...)
		fields := t.Fields[:cap(t.Fields)]
		for j, f := range fields {
			all = append(append(append(all, &fields[j]), items(f.Type.List)...), items(f.Type.Res)...)
			all = append(all, itemsOfFields(f.Type.Fields)...)
		}
	}
	return all
}

func itemsOfFields(fields []api.Field) []any {
	return items([]api.Type{{Fields: fields}})[1:]
}

const manyTypes = `
type P struct { x int; y []bool }
type Q struct { p P; q P; f func(P, P) P }
func f(p P, q P, r Q) P { return p }
func g(p Q, q []Q, r chan Q) Q { return p }
func h[T any, U any](x T, y T, z []T, f func(T, U) Q) T { return x }
func i[T any, U any](x T, y T, z []T, f func(T, U) Q) T { return x }
func main() { }
`

func TestAnswersShareNothing(t *testing.T) {
	n := read(t, manyTypes)
	seen := map[any]int{}
	for range 2 {
		sigs, _, e := check.Program(n)
		if e != api.OK || len(sigs) != 5 {
			t.Fatalf("%d, %d heads", e, len(sigs))
		}
		for i, s := range sigs {
			for _, l := range [][]api.Type{s.TParams, s.Params, s.Res} {
				for _, p := range items(l) {
					seen[p]++
				}
			}
			seen[&sigs[i]]++
		}
		for _, s := range sigs[:cap(sigs)][len(sigs):] {
			if !reflect.DeepEqual(s, api.Sig{}) {
				t.Errorf("spare room of an answer: %+v", s)
			}
		}
	}
	for p, times := range seen {
		if times > 1 {
			t.Fatalf("%v stands in %d lists", p, times)
		}
	}
}

func TestArgumentsAreLeftAlone(t *testing.T) {
	for _, s := range []string{manyTypes, body("x := id(p); x.x = sum(1, 2); s = append(s)"), body("x := func(y []T) func(T) C { return func(z T) C { return cc } }; cc = x(st)(tt)"), "func main() { x = 1 }"} {
		n := roomy(read(t, s))
		before := whole(n)
		first, at, e := check.Program(n)
		again, at2, e2 := check.Program(n)
		if !reflect.DeepEqual(before, whole(n)) {
			t.Errorf("a tree is changed: %.99s", s)
		}
		if !reflect.DeepEqual(first, again) || at != at2 || e != e2 {
			t.Errorf("two answers to one tree: %d at %d, %d at %d", e, at, e2, at2)
		}
	}
}

// TestTreesOfTexts: each answer is a tree of its own.
func TestTreesOfTexts(t *testing.T) {
	a, _, e := check.Source(manyTypes)
	b, _, _ := check.Source(manyTypes)
	want, _, _ := parse.Parse(manyTypes)
	for _, p := range pointers(&a) {
		*p = api.Node{}
	}
	if e != api.OK || !reflect.DeepEqual(b, want) {
		t.Errorf("error %d, or a tree is shared", e)
	}
}

// TestEmptyLists: nil and empty are the same.
func TestEmptyLists(t *testing.T) {
	for _, s := range []string{manyTypes, "func main() { }", "func main() { return; select { }; x := 1 }", "func main() { f() }"} {
		n := read(t, s)
		first, at, e := check.Program(n)
		for _, p := range pointers(&n) {
			if len(p.List) == 0 {
				p.List = []api.Node{}
			}
		}
		again, at2, e2 := check.Program(n)
		if !reflect.DeepEqual(first, again) || at != at2 || e != e2 {
			t.Errorf("%d at %d, %d at %d", e, at, e2, at2)
		}
	}
}
