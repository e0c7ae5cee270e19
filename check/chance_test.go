package check_test

import (
	"math/rand"
	"slices"
	"strings"
	"testing"

	"mullion/api"
	"mullion/check"
	"mullion/node"
	"mullion/parse"
	"mullion/print"
	"mullion/tree"
)

// somePrograms makes trees of programs without a fault.
func somePrograms(t *testing.T, seed int64, many int, use func(r *rand.Rand, n api.Node)) {
	t.Helper()
	m := &maker{r: rand.New(rand.NewSource(seed))}
	for many > 0 {
		text := m.program()
		if m.isStuck || len(text) > 6000 {
			continue
		}
		n, at, e := parse.Parse(text)
		if e != api.OK {
			t.Fatalf("a program can't be read: %d at %d\n%s", e, at, text)
		}
		use(m.r, n)
		many--
	}
}

// verdict answers whether there is a fault, and asks that one has the place of a node.
func verdict(t *testing.T, n api.Node) bool {
	t.Helper()
	sigs, at, e := check.Program(n)
	if e == api.OK {
		return at == 0
	}
	isPlace := slices.ContainsFunc(walk(n), func(p api.Node) bool { return p.At == at })
	if !isPlace || e == api.ErrForm || len(sigs) > 0 {
		t.Errorf("error %d at %d, %d heads", e, at, len(sigs))
	}
	return false
}

func written(n api.Node) string {
	s, _ := print.Text(n)
	return s
}

func TestProgramsByChance(t *testing.T) {
	kinds := map[int]int{}
	somePrograms(t, 9, 700, func(r *rand.Rand, n api.Node) {
		if !verdict(t, n) {
			_, _, e := check.Program(n)
			t.Fatalf("a program has a fault: %d\n%s", e, written(n))
		}
		if fine, text := oracle(n); !fine {
			t.Fatalf("Go has something against a program:\n%s", text)
		}
		for _, p := range walk(n) {
			kinds[p.Kind]++
		}
	})
	for _, kind := range []int{2, 3, 8, 10, 11, 12, 13, 20, 21, 22, 23, 24, 25, 26, 27, 28, 29, 30, 31, 32, 33, 34, 35, 36, 37, 38, 39, 40, 41, 42, 43, 44, 45} {
		if kinds[kind] < 100 {
			t.Errorf("there are only %d nodes %d in all programs", kinds[kind], kind)
		}
	}
}

// changed answers a program with a part changed, or with one more or one less.
func changed(r *rand.Rand, n api.Node) api.Node {
	n = clone(n)
	var all []*api.Node
	var collect func(n *api.Node)
	collect = func(n *api.Node) {
		all = append(all, n)
		for i := range n.List {
			collect(&n.List[i])
		}
	}
	collect(&n)
	p := all[r.Intn(len(all))]
	other := clone(*all[r.Intn(len(all))])
	names := append(tree.Names(n), strings.Fields("P Q f g main T U a b x y zz len print panic recover close int8 int bool integer")...)
	switch r.Intn(8) {
	case 0, 1:
		changeName(r, p, names)
	case 2, 3:
		*p = other
	case 4:
		*p = api.Node{Kind: node.Number, N: []uint64{0, 1, 127, 128, 255, 256, 1 << 31, 1 << 32, 1<<63 - 1, 1 << 63, 1<<64 - 1}[r.Intn(11)], At: p.At}
	case 5:
		if len(p.List) > 0 {
			i := r.Intn(len(p.List))
			p.List = slices.Delete(p.List, i, i+1)
		}
	case 6:
		if len(p.List) > 0 {
			i, j := r.Intn(len(p.List)), r.Intn(len(p.List))
			p.List[i], p.List[j] = p.List[j], p.List[i]
		}
	case 7:
		p.List = slices.Insert(p.List, r.Intn(len(p.List)+1), other)
	}
	return n
}

// changeName changes what a node has beside its List.
func changeName(r *rand.Rand, p *api.Node, names []string) {
	switch {
	case p.Kind == node.Operator:
		p.Text = strings.Fields("+ - * / % & | ^ << >> &^ && || == != < <= > >= !")[r.Intn(20)]
	case p.Text != "":
		p.Text = names[r.Intn(len(names))]
	}
	if p.Kind == node.TypeParam || p.Kind == node.Leave || p.Kind == node.Flag || p.Kind == node.Start {
		p.N = uint64(r.Intn(4))
	}
}

func clone(n api.Node) api.Node {
	var list []api.Node
	for _, p := range n.List {
		list = append(list, clone(p))
	}
	n.List = list
	return n
}

// TestChangesByChance: a program of which a part is changed has a fault just if Go has something against it.
func TestChangesByChance(t *testing.T) {
	faults, fine := 0, 0
	somePrograms(t, 10, 250, func(r *rand.Rand, n api.Node) {
		for i := range 25 {
			c := changed(r, n)
			if i%3 == 0 {
				c = changed(r, c)
			}
			if tree.Check(c) != api.OK {
				if _, at, e := check.Program(c); at != 0 || e != api.ErrForm {
					t.Fatalf("%d at %d of a tree that is not sound", e, at)
				}
				continue
			}
			isFine := verdict(t, c)
			wanted, text := oracle(c)
			if isFine != wanted {
				_, _, e := check.Program(c)
				t.Fatalf("a program has the error %d:\n%s\nof\n%s", e, written(c), text)
			}
			if isFine {
				fine++
			} else {
				faults++
			}
		}
	})
	if fine < 1000 || faults < 1000 {
		t.Errorf("only %d have no fault, and %d one", fine, faults)
	}
}
