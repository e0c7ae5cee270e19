package tree_test

import (
	"reflect"
	"testing"

	"mullion/api"
	"mullion/tree"
)

// roomy answers n with lists that have spare room, and marks in it.
func roomy(n api.Node) api.Node {
	mark := api.Node{Kind: 30, Text: "spare"}
	list := []api.Node{}
	for _, p := range n.List {
		list = append(list, roomy(p))
	}
	n.List = append(list, mark, mark)[:len(list)]
	return n
}

// shown answers n with its spare room shown, in new memory.
func shown(n api.Node) api.Node {
	list := []api.Node{}
	for _, p := range n.List[:cap(n.List)] {
		list = append(list, shown(p))
	}
	n.List = list
	return n
}

// places tells where the nodes of all lists of n stand, spare room included.
func places(n api.Node) []*api.Node {
	var all []*api.Node
	list := n.List[:cap(n.List)]
	for i := range list {
		all = append(all, &list[i])
		all = append(all, places(list[i])...)
	}
	return all
}

// apart tells whether no node stands in two lists of these.
func apart(ns ...api.Node) bool {
	seen := map[*api.Node]int{}
	for _, n := range ns {
		for _, p := range places(n) {
			seen[p]++
			if seen[p] > 1 {
				return false
			}
		}
	}
	return true
}

// spoil changes all that n's lists hold, spare room included.
func spoil(n api.Node) {
	list := n.List[:cap(n.List)]
	for i := range list {
		spoil(list[i])
		list[i] = api.Node{Kind: -1, Text: "spoilt", N: 9, At: -9}
	}
}

func TestArgumentsAreLeftAlone(t *testing.T) {
	for _, n := range someTrees() {
		x := roomy(n)
		before := shown(x)
		_ = tree.Check(x)
		for sort := range 5 {
			_ = tree.Sound(x, sort)
		}
		_, _, _, _ = tree.Same(x, x), tree.Size(x), tree.Depth(x), tree.Names(x)
		for range tree.Walk(x) {
		}
		if !reflect.DeepEqual(before, shown(x)) {
			t.Errorf("a node %d is changed", n.Kind)
		}
	}
}

// TestNodesOfWalkShareNothing: neither with the tree, nor with one another, nor with those of another walk.
func TestNodesOfWalkShareNothing(t *testing.T) {
	for _, n := range someTrees() {
		if tree.Size(n) > 200 {
			continue
		}
		x := roomy(n)
		all := []api.Node{x}
		walk := tree.Walk(x)
		for range 2 {
			for _, p := range walk {
				all = append(all, p)
			}
		}
		for _, p := range tree.Walk(x) {
			all = append(all, p)
		}
		if !apart(all...) {
			t.Errorf("what is given of a node %d shares memory", n.Kind)
		}
	}
	// One node in many places is given anew for each.
	one := []api.Node{name("x")}
	all := []api.Node{{List: one}}
	for _, p := range tree.Walk(bare(34, api.Node{Kind: 39, List: one}, api.Node{Kind: 39, List: one})) {
		all = append(all, p)
	}
	if !apart(all...) {
		t.Errorf("Walk shares what was shared")
	}
}

// TestWalkKeepsWhatThereWas: neither what is done to the tree behind the call nor what is done to a node that was given is seen.
func TestWalkKeepsWhatThereWas(t *testing.T) {
	for _, n := range someTrees() {
		x := roomy(n)
		was := roomy(n)
		walk, want := tree.Walk(x), modelWalk(0, was)
		i := 0
		for depth, p := range walk {
			if depth != want[i].depth || !reflect.DeepEqual(tidy(p), tidy(want[i].node)) {
				t.Fatalf("step %d is %d, %+v", i, depth, p)
			}
			spoil(p)
			i++
		}
		if !reflect.DeepEqual(shown(x), shown(was)) {
			t.Errorf("what is done to a node is seen in the tree")
		}
		wantSteps(t, walk, want)
		wantSteps(t, tree.Walk(x), want)
		spoil(x)
		wantSteps(t, walk, want)
	}
}

func TestNamesAnew(t *testing.T) {
	n := call(name("x"), name("y"), name("z"))
	a, b := tree.Names(n), tree.Names(n)
	for i := range a[:cap(a)] {
		a[:cap(a)][i] = "spoilt"
	}
	if c := tree.Names(n); !reflect.DeepEqual(b, []string{"f", "x", "y", "z"}) || !reflect.DeepEqual(c, b) {
		t.Errorf("Names shares: %q, %q", b, c)
	}
}
