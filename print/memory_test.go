package print_test

import (
	"reflect"
	"testing"

	"mullion/api"
	"mullion/node"
)

// roomy answers n with lists that have spare room, and marks in it.
func roomy(n api.Node) api.Node {
	mark := api.Node{Kind: 30, Text: "spare", At: 7}
	list := []api.Node{}
	for i, p := range n.List {
		p = roomy(p)
		p.At = i + 1
		list = append(list, p)
	}
	n.List = append(list, mark, mark)[:len(list)]
	return n
}

// shown answers n with its spare room shown, in new memory.
func shown(n api.Node) api.Node {
	list := []api.Node{}
	for _, p := range n.List[:cap(n.List)] {
		list = append(list, shown(p))
	}
	n.List = list
	return n
}

// allTrees: a tree for each row, sound as something or not.
func allTrees() []api.Node {
	var all []api.Node
	for _, r := range append(expressionRows(), typeRows()...) {
		all = append(all, r.n, op("!!", r.n))
	}
	for _, r := range statementRows() {
		all = append(all, r.n, program(fn("f", block(r.n))), closure(params(), result(), block(r.n)))
	}
	for _, r := range declarationRows() {
		all = append(all, r.n, program(r.n))
	}
	return append(all, program(times(16383, structType("averylongnameofastructtype"))...), api.Node{})
}

// TestArgumentsAreLeftAlone: neither the tree nor the spare room of its lists is changed; and the same is answered again, with spare room and without.
func TestArgumentsAreLeftAlone(t *testing.T) {
	for _, n := range allTrees() {
		x := roomy(n)
		before := shown(x)
		for _, c := range calls {
			s, e := c.write(x)
			again, e2 := c.write(n)
			if s != again || e != e2 {
				t.Errorf("%s of a node %d = %s, %d, and then %s, %d", c.name, n.Kind, short(s), e, short(again), e2)
			}
		}
		if !reflect.DeepEqual(before, shown(x)) {
			t.Errorf("a node %d is changed", n.Kind)
		}
	}
}

// TestNilAndEmpty: nil and empty lists are the same.
func TestNilAndEmpty(t *testing.T) {
	for _, n := range []api.Node{
		program(is(node.Struct, "P", 0), function("f", api.Node{Kind: node.TypeParams, List: []api.Node{}}, params(), api.Node{Kind: node.Result, List: []api.Node{}}, api.Node{Kind: node.Block, List: []api.Node{}})),
		program(api.Node{Kind: node.Struct, Text: "P", List: []api.Node{}}, fn("f", block())),
	} {
		wantText(t, text, n, "type P struct {\n}\nfunc f() {\n}\n")
	}
	wantText(t, expr, api.Node{Kind: node.Name, Text: "x", List: []api.Node{}}, "x")
	wantText(t, typed, api.Node{Kind: node.TypeName, Text: "x", List: []api.Node{}}, "x")
}

// TestAnyArgument: trees that stand in themselves, that have no end of nodes, and nodes of any Kind without what it asks for.
func TestAnyArgument(t *testing.T) {
	ring := []api.Node{{Kind: node.Operator, Text: "-"}}
	ring[0].List = ring
	blocks := []api.Node{{Kind: node.Block}}
	blocks[0].List = blocks
	slices := []api.Node{{Kind: node.SliceType}}
	slices[0].List = slices
	wide := name("a")
	for range 60 {
		wide = op("+", wide, wide)
	}
	for _, n := range []api.Node{ring[0], blocks[0], slices[0], wide, closure(params(), result(), blocks[0]), program(fn("f", blocks[0])), program(structType("P", field("x", slices[0])))} {
		for _, c := range calls {
			wantFault(t, c, n, api.ErrForm)
		}
	}
	for kind := -3; kind < 70; kind++ {
		for _, n := range []api.Node{{Kind: kind}, {Kind: kind, Text: "x"}, {Kind: kind, N: 1<<64 - 1}, {Kind: kind, List: []api.Node{{}}}, {Kind: kind, Text: "-", List: []api.Node{{}, {}, {}}}} {
			for _, c := range calls {
				if s, e := c.write(n); e != api.OK && (s != "" || e != api.ErrForm) {
					t.Errorf("%s of a node %d = %q, %d", c.name, kind, s, e)
				}
			}
		}
	}
}
