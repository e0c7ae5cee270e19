package tree_test

import (
	"math/rand"
	"reflect"
	"slices"
	"strings"
	"testing"

	"mullion/api"
	"mullion/node"
	"mullion/tree"
)

// brief answers a short text of n, to be shown.
func brief(n api.Node) (int, string, uint64, []int) {
	var kinds []int
	for _, p := range n.List[:min(len(n.List), 20)] {
		kinds = append(kinds, p.Kind)
	}
	return n.Kind, n.Text, n.N, kinds
}

// wantSound asks for what the model says of n, of Check and of each sort.
func wantSound(t *testing.T, n api.Node) {
	t.Helper()
	kind, text, k, kinds := brief(n)
	if e, want := tree.Check(n), modelSound(n, 0); e != want {
		t.Errorf("Check(%d %.80q %d %v) = %d, not %d", kind, text, k, kinds, e, want)
	}
	for sort := 1; sort <= 3; sort++ {
		if e, want := tree.Sound(n, sort), modelSound(n, sort); e != want {
			t.Errorf("Sound(%d %.80q %d %v, %d) = %d, not %d", kind, text, k, kinds, sort, e, want)
		}
	}
}

// wantAs asks for what the model says of n by itself, and in a tree.
func wantAs(t *testing.T, n api.Node) {
	t.Helper()
	wantSound(t, n)
	whole := inTree(n)
	if kind, text, k, kinds := brief(n); tree.Check(whole) != modelSound(whole, 0) {
		t.Errorf("Check of a tree with %d %.80q %d %v = %d", kind, text, k, kinds, tree.Check(whole))
	}
}

// wantOnly asks for OK of n as a root of that sort (0: a program), and for ErrForm as any other.
func wantOnly(t *testing.T, n api.Node, sort int) {
	t.Helper()
	kind, text, k, kinds := brief(n)
	for s := 0; s <= 3; s++ {
		e := tree.Check(n)
		if s > 0 {
			e = tree.Sound(n, s)
		}
		if (e == api.OK) != (s == sort) || e != api.OK && e != api.ErrForm {
			t.Errorf("%d %.80q %d %v is sound as %d: %d", kind, text, k, kinds, s, e)
		}
	}
}

// P4.1.

func TestExamples(t *testing.T) {
	wantOnly(t, num(5), 2)
	wantOnly(t, bare(24, name("x")), -1)
	if l := tree.Names(bare(34, name("f"), name("x"), name("f"))); !slices.Equal(l, []string{"f", "x"}) {
		t.Errorf("Names of f(x, f) = %q", l)
	}
}

func TestSoundOnes(t *testing.T) {
	seen := map[int]int{}
	for _, n := range samples() {
		seen[n.Kind]++
		sort := slices.IndexFunc([]int{0, 1, 2, 3}, func(s int) bool { return modelSort(s, n.Kind) })
		wantOnly(t, n, sort)
		wantOnly(t, inTree(n), 0)
		wantAs(t, n)
	}
	if len(seen) != 38 {
		t.Errorf("there are samples of %d Kinds", len(seen))
	}
}

// TestSpoilings: each form with one thing in it that is otherwise.
func TestSpoilings(t *testing.T) {
	sound, unsound := 0, 0
	for _, n := range samples() {
		for _, x := range spoilings(n) {
			wantAs(t, x)
			if modelForm(x) {
				sound++
			} else {
				unsound++
			}
		}
	}
	if sound < 1000 || unsound < 10000 {
		t.Errorf("of the spoilings %d are sound, %d not", sound, unsound)
	}
}

// TestSomeTrees: trees of all sorts, and such with something otherwise deep inside.
func TestSomeTrees(t *testing.T) {
	r := rand.New(rand.NewSource(4))
	for range 1500 {
		n := ready[r.Intn(len(ready))]
		n = someNode(r, n.Kind, r.Intn(7))
		if whole := inTree(n); modelSize(n) < 16000 && tree.Check(whole) != api.OK {
			t.Errorf("a tree with a node %d of %d nodes, %d deep, is not sound", n.Kind, modelSize(n), modelDepth(n))
		}
		wantAs(t, n)
		wantAs(t, spoilSomewhere(r, n))
	}
}

// spoilSomewhere answers n with one node of it otherwise.
func spoilSomewhere(r *rand.Rand, n api.Node) api.Node {
	if len(n.List) == 0 || r.Intn(4) == 0 {
		all := spoilings(n)
		return all[r.Intn(len(all))]
	}
	n.List = slices.Clone(n.List)
	i := r.Intn(len(n.List))
	n.List[i] = spoilSomewhere(r, n.List[i])
	return n
}

func TestNoKinds(t *testing.T) {
	for _, kind := range []int{-1 << 63, -1, 0, 9, 14, 15, 19, 46, 47, 64, 1<<32 + 30, 1<<63 - 1} {
		for _, n := range []api.Node{bare(kind), is(kind, "x", 0), bare(kind, name("x")), is(kind, "", 1), bare(kind, typeName("T")), bare(kind, block())} {
			wantOnly(t, n, -1)
		}
		wantOnly(t, bare(node.Return, bare(kind)), -1)
		wantOnly(t, bare(node.SliceType, bare(kind)), -1)
		wantOnly(t, bare(node.Program, bare(kind)), -1)
	}
}

func TestNames(t *testing.T) {
	named := func(s string) []api.Node {
		return []api.Node{
			is(2, s, 0), is(3, s, 0, bare(4), params(), result(), block()), is(5, s, 0, typeName("T")), is(8, s, 1), typeName(s),
			is(21, s, 0, num(1)), is(22, s, 0, typeName("T")), name(s), is(35, s, 0, name("x")), is(37, s, 0), receiveCase(s, name("c"), block()),
		}
	}
	for _, s := range []string{"a", "Z", "_", "_9", "x1", "\u00c0", "\u00f6\u024f", "any", "make", "int", "true1", "Func", strings.Repeat("n", 64), strings.Repeat("\u00e9", 32)} {
		for _, n := range named(s) {
			wantOnly(t, inTree(n), 0)
		}
	}
	for _, s := range append(noNames(), "") {
		for _, n := range named(s) {
			if n.Kind != 43 || s != "" {
				wantOnly(t, inTree(n), -1)
			}
		}
	}
}

func TestOperators(t *testing.T) {
	x := name("x")
	for _, s := range append(noNames(), "", "x", "<-", "=", ":=", ".", "&&=", "+", "-", "*", "/", "%", "&", "|", "^", "<<", ">>", "&^", "&&", "||", "==", "!=", "<", "<=", ">", ">=", "!") {
		one, two := -1, -1
		if slices.Contains([]string{"-", "^", "!"}, s) {
			one = 2
		}
		if slices.Contains([]string{"+", "-", "*", "/", "%", "&", "|", "^", "<<", ">>", "&^", "&&", "||", "==", "!=", "<", "<=", ">", ">="}, s) {
			two = 2
		}
		wantOnly(t, op(s), -1)
		wantOnly(t, op(s, x), one)
		wantOnly(t, op(s, x, x), two)
		wantOnly(t, op(s, x, x, x), -1)
	}
}

// TestMany: as many parameters, fields and arguments as there may be, and one more.
func TestMany(t *testing.T) {
	tp, x, slice := is(8, "T", 1), name("x"), bare(11, typeName("T"))
	for many := range 20 {
		for _, row := range []struct {
			n    api.Node
			fits bool
		}{
			{is(2, "P", 0, times(many, field("x"))...), many <= 16},
			{bare(4, times(many, tp)...), many <= 16},
			{params(times(many, field("x"))...), many <= 16},
			{funcType(0, times(many, slice)...), many <= 16},
			{funcType(1, times(many+1, slice)...), many <= 16},
			{funcType(1, times(many, slice)...), 1 <= many && many <= 17},
			{call(times(many, x)...), many <= 16},
			{index(times(many, x)...), 1 <= many && many <= 16},
			{index(times(many, slice)...), 1 <= many && many <= 16},
			{lit(times(many, x)...), many <= 16},
			{bare(1, times(many, is(2, "P", 0))...), true},
			{block(times(many, bare(28))...), true},
			{bare(42, times(many, bare(44, x, x, block()))...), true},
		} {
			if e := tree.Check(inTree(row.n)); (e == api.OK) != row.fits {
				t.Errorf("Check of a node %d with %d in it = %d", row.n.Kind, many, e)
			}
		}
	}
}

func TestDefaults(t *testing.T) {
	d, c := bare(45, block()), bare(44, name("c"), num(1), block())
	wantOnly(t, bare(42), 1)
	wantOnly(t, bare(42, d), 1)
	wantOnly(t, bare(42, d, c, c), 1)
	wantOnly(t, bare(42, c, d, c), 1)
	wantOnly(t, bare(42, d, d), -1)
	wantOnly(t, bare(42, d, c, d), -1)
	wantOnly(t, bare(42, c, d, c, d), -1)
	// Of each select by itself.
	wantOnly(t, bare(42, d, bare(44, name("c"), num(1), block(bare(42, d)))), 1)
}

func TestPlaces(t *testing.T) {
	for _, n := range samples() {
		for _, at := range []int{-1 << 63, -1, 0, 7, 1<<63 - 1} {
			n.At = at
			wantAs(t, n)
		}
	}
}

func TestNoSort(t *testing.T) {
	for _, sort := range []int{-1 << 63, -1, 0, 4, 5, 20, 30, 1<<32 + 1, 1<<63 - 1} {
		for _, n := range []api.Node{{}, num(5), block(), typeName("T"), bare(1), bare(24, name("x"))} {
			if e := tree.Sound(n, sort); e != api.ErrArg {
				t.Errorf("Sound of sort %d = %d", sort, e)
			}
		}
	}
}

// typeOf answers a type of n nodes.
func typeOf(n int) api.Node {
	if n == 1 {
		return typeName("T")
	}
	var list []api.Node
	rest := n - 1
	for parts := min(rest, 16); parts > 0; parts-- {
		list = append(list, typeOf(rest/parts))
		rest -= rest / parts
	}
	return funcType(0, list...)
}

// roots: a root of each sort (0: a program) with n nodes.
func roots(n int) [4]api.Node {
	leave := is(node.Leave, "", 0)
	return [4]api.Node{
		bare(1, plainFn(block(times(n-6, leave)...))), block(times(n-1, leave)...),
		bare(38, params(), result(), block(times(n-4, leave)...)), typeOf(n),
	}
}

func TestNumberOfNodes(t *testing.T) {
	for _, n := range []int{api.MaxNodes - 1, api.MaxNodes, api.MaxNodes + 1, api.MaxNodes + 2, 3 * api.MaxNodes} {
		for sort, root := range roots(n) {
			if size := tree.Size(root); size != n {
				t.Fatalf("a root has %d nodes, not %d", size, n)
			}
			if n <= api.MaxNodes {
				wantOnly(t, root, sort)
			} else {
				wantOnly(t, root, -1)
			}
		}
	}
}

// nested answers roots of the four sorts of that depth.
func nested(depth int) map[string]api.Node {
	loop, minus, slice, back := block(), num(1), typeName("T"), bare(25, name("x"), block())
	for i := range depth {
		minus, slice = op("-", minus), bare(11+i%2, slice)
		if i > 0 {
			back = bare(25, name("x"), block(), back)
			loop = block(loop)
		}
	}
	return map[string]api.Node{"expression": minus, "type": slice, "else": back, "block": block(loop)}
}

func TestDeepTrees(t *testing.T) {
	sorts := map[string]int{"expression": 2, "type": 3, "else": 1, "block": 1}
	for depth := 1; depth <= api.MaxNest+3; depth++ {
		for what, n := range nested(depth) {
			if d := tree.Depth(n); d != depth {
				t.Fatalf("%s has the depth %d, not %d", what, d, depth)
			}
			if depth <= api.MaxNest {
				wantOnly(t, n, sorts[what])
			} else {
				wantOnly(t, n, -1)
			}
			whole := inTree(n)
			if deep := tree.Depth(whole); (tree.Check(whole) == api.OK) != (deep <= api.MaxNest) {
				t.Errorf("Check of a tree of depth %d = %d", deep, tree.Check(whole))
			}
		}
	}
}

// TestHugeTrees: calls end at trees beyond all limits.
func TestHugeTrees(t *testing.T) {
	const deep = 1<<16 - 1
	chain := name("x")
	for range deep {
		chain = op("-", chain)
	}
	wantOnly(t, chain, -1)
	if size, depth := tree.Size(chain), tree.Depth(chain); size != deep+1 || depth != deep {
		t.Errorf("Size %d, Depth %d", size, depth)
	}
	if l := tree.Names(chain); !tree.Same(chain, chain) || !slices.Equal(l, []string{"x"}) {
		t.Errorf("Names %q", l)
	}
	for depth, n := range tree.Walk(chain) {
		if depth == 2 {
			break
		}
		if tree.Size(n) != deep+1-depth {
			t.Errorf("at %d Walk gives %d nodes", depth, tree.Size(n))
		}
	}
	wide := block(times(1<<20, name("x"))...)
	wantOnly(t, wide, -1)
	if size, depth := tree.Size(wide), tree.Depth(wide); size != 1<<20+1 || depth != 1 {
		t.Errorf("Size %d, Depth %d", size, depth)
	}
	// A list with itself in it is too deep for any tree.
	for _, kind := range []int{11, 13, 20, 33, 34, 37, 42} {
		l := make([]api.Node, 3)
		for i := range l {
			l[i] = api.Node{Kind: kind, List: l}
		}
		wantNoTree(t, l[0])
	}
}

// wantNoTree asks for ErrForm of n, whatever it is asked for as.
func wantNoTree(t *testing.T, n api.Node) {
	t.Helper()
	for sort := 1; sort <= 3; sort++ {
		if e := tree.Sound(n, sort); e != api.ErrForm {
			t.Errorf("Sound(%d, %d) = %d", n.Kind, sort, e)
		}
	}
	if e := tree.Check(n); e != api.ErrForm {
		t.Errorf("Check(%d) = %d", n.Kind, e)
	}
}

// P4.2.

// someTrees: the samples, trees with them, and such that are not sound.
func someTrees() []api.Node {
	all := []api.Node{{}, {Kind: -1, Text: "\xff", N: 1 << 63, At: -1}, bare(77, bare(-5), is(30, "", 9, name("\xff")))}
	r := rand.New(rand.NewSource(5))
	for _, n := range samples() {
		all = append(all, n, inTree(n))
		x := someNode(r, n.Kind, 3)
		all = append(all, x, spoilSomewhere(r, x))
	}
	return all
}

func TestSizeAndDepth(t *testing.T) {
	for _, n := range someTrees() {
		if size, depth := tree.Size(n), tree.Depth(n); size != modelSize(n) || depth != modelDepth(n) {
			t.Errorf("Size %d, Depth %d, not %d, %d", size, depth, modelSize(n), modelDepth(n))
		}
	}
}

// moved answers n with other places.
func moved(r *rand.Rand, n api.Node) api.Node {
	var list []api.Node
	for _, p := range n.List {
		list = append(list, moved(r, p))
	}
	return api.Node{Kind: n.Kind, Text: n.Text, N: n.N, At: r.Int() - 1<<62, List: list}
}

func wantSame(t *testing.T, want bool, a, b api.Node) {
	t.Helper()
	if tree.Same(a, b) != want || tree.Same(b, a) != want {
		t.Errorf("Same(%+v, %+v) is not %v", a, b, want)
	}
}

func TestSame(t *testing.T) {
	r := rand.New(rand.NewSource(6))
	for _, n := range someTrees() {
		wantSame(t, true, n, n)
		wantSame(t, true, n, moved(r, n))
	}
	list := samples()
	for i, a := range list {
		for j, b := range list {
			wantSame(t, i == j, a, moved(r, b))
			wantSame(t, i == j, bare(20, a), bare(20, b))
		}
	}
}

// TestSameInAll: at any place one thing that differs is enough.
func TestSameInAll(t *testing.T) {
	x := is(33, "+", 7, name("a"), num(1))
	differ := []api.Node{
		is(34, "+", 7, name("a"), num(1)), is(33, "-", 7, name("a"), num(1)), is(33, "", 7, name("a"), num(1)), is(33, "+", 6, name("a"), num(1)), is(33, "+", 7+1<<32, name("a"), num(1)),
		is(33, "+", 7, name("a")), is(33, "+", 7), is(33, "+", 7, name("a"), num(1), num(1)), is(33, "+", 7, num(1), name("a")), is(33, "+", 7, name("b"), num(1)), is(33, "+", 7, name("a"), num(2)),
		is(33, "+", 7, is(30, "a", 0, bare(0)), num(1)), is(33, "+", 7, typeName("a"), num(1)),
	}
	wrap := []func(n api.Node) api.Node{
		func(n api.Node) api.Node { return n },
		func(n api.Node) api.Node { return bare(0, n) },
		func(n api.Node) api.Node { return bare(-3, name("x"), n, name("y")) },
		func(n api.Node) api.Node { return bare(20, bare(20, name("x"), bare(20, name("y"), n))) },
	}
	for _, in := range wrap {
		for _, y := range differ {
			wantSame(t, false, in(x), in(y))
		}
	}
	empty := api.Node{Kind: 20, List: make([]api.Node, 0, 3)}
	wantSame(t, true, empty, block())
	if tree.Sound(empty, 1) != api.OK || tree.Depth(empty) != 0 {
		t.Errorf("an empty list is not as none")
	}
}

// P4.3.

// step is what Walk gives.
type step struct {
	depth int
	node  api.Node
}

// modelWalk: what Walk should give.
func modelWalk(depth int, n api.Node) []step {
	all := []step{{depth, n}}
	for _, p := range n.List {
		all = append(all, modelWalk(depth+1, p)...)
	}
	return all
}

// wantSteps asks Walk for these nodes, places and all.
func wantSteps(t *testing.T, walk func(func(int, api.Node) bool), want []step) {
	t.Helper()
	i := 0
	for depth, n := range walk {
		if i >= len(want) || depth != want[i].depth || !reflect.DeepEqual(tidy(n), tidy(want[i].node)) {
			t.Errorf("step %d of Walk is %d, %+v", i, depth, n)
		}
		i++
	}
	if i != len(want) {
		t.Errorf("Walk gives %d nodes, not %d", i, len(want))
	}
}

// tidy answers n in new memory, with nil for empty lists.
func tidy(n api.Node) api.Node {
	var list []api.Node
	for _, p := range n.List {
		list = append(list, tidy(p))
	}
	n.List = list
	return n
}

func TestWalk(t *testing.T) {
	r := rand.New(rand.NewSource(7))
	for _, n := range someTrees() {
		n = moved(r, n)
		walk, want := tree.Walk(n), modelWalk(0, n)
		wantSteps(t, walk, want)
		wantSteps(t, walk, want)
		wantSteps(t, tree.Walk(n), want)
	}
	// A tree by hand: a; b, with c and d in it; e.
	n := bare(1, is(30, "a", 0), is(30, "b", 0, is(30, "c", 0), is(30, "d", 0)), is(30, "e", 0))
	got := ""
	for depth, p := range tree.Walk(n) {
		got += p.Text + string(rune('0'+depth))
	}
	if got != "0a1b1c2d2e1" {
		t.Errorf("Walk gives %s", got)
	}
}

// TestWalkThatIsLeft: it stops at once, and gives all when it is gone through again.
func TestWalkThatIsLeft(t *testing.T) {
	n := inTree(is(38, "", 0, params(field("x")), result(), block(bare(24, call(name("x"), num(1))))))
	want := modelWalk(0, n)
	walk := tree.Walk(n)
	for most := range want {
		i := 0
		for depth, p := range walk {
			if depth != want[i].depth || p.Kind != want[i].node.Kind {
				t.Errorf("step %d is %d, %d", i, depth, p.Kind)
			}
			if i++; i > most {
				break
			}
		}
		if i != most+1 {
			t.Errorf("left behind %d nodes, not %d", i, most+1)
		}
	}
	wantSteps(t, walk, want)
	// Two at once.
	for range walk {
		wantSteps(t, walk, want)
		break
	}
}

func TestNamesOf(t *testing.T) {
	for _, row := range []struct {
		n    api.Node
		want []string
	}{
		{num(5), nil}, {api.Node{}, nil}, {name("x"), []string{"x"}}, {typeName("x"), []string{"x"}},
		{bare(33, name("b"), name("a"), name("b"), name("c"), name("a")), []string{"b", "a", "c"}},
		{is(40, "", 0, bare(11, typeName("T")), name("x")), []string{"T", "x"}},
		{bare(36, name("T"), bare(11, typeName("T")), bare(12, typeName("U")), name("U")), []string{"T", "U"}},
		// Names that are none of an expression or a type: of fields, functions, structs, variables.
		{is(35, "f", 0, name("x")), []string{"x"}}, {is(21, "y", 0, name("x")), []string{"x"}}, {is(22, "y", 0, typeName("T")), []string{"T"}},
		{is(37, "P", 0, name("x")), []string{"x"}}, {is(5, "y", 0, typeName("T")), []string{"T"}}, {is(8, "T", 1), nil}, {is(2, "P", 0, field("x")), []string{"int"}},
		{receiveCase("x", name("c"), block()), []string{"c"}}, {is(33, "+", 0, num(1), num(1)), nil},
		{is(1, "", 0, is(3, "f", 0, bare(4, is(8, "T", 1)), params(is(5, "x", 0, typeName("T"))), result(typeName("T")), block(bare(28, name("x"))))), []string{"T", "x"}},
		// In the order of Walk: each ahead of what is in it, whether it is sound or not.
		{is(30, "a", 0, is(30, "b", 0, name("c")), name("a"), name("b"), name("d")), []string{"a", "b", "c", "d"}},
		{bare(0, is(10, "", 3), is(30, "", 0), name("\xff"), typeName("a b"), name("func")), []string{"", "\xff", "a b", "func"}},
	} {
		if l := tree.Names(row.n); !slices.Equal(l, row.want) {
			t.Errorf("Names(%+v) = %q, not %q", row.n, l, row.want)
		}
	}
	for _, n := range someTrees() {
		var want []string
		for _, s := range modelWalk(0, n) {
			if (s.node.Kind == 10 || s.node.Kind == 30) && !slices.Contains(want, s.node.Text) {
				want = append(want, s.node.Text)
			}
		}
		if l := tree.Names(n); !slices.Equal(l, want) {
			t.Errorf("Names(%+v) = %q, not %q", n, l, want)
		}
	}
}
