package tree_test

import (
	"math/rand"
	"regexp"
	"slices"
	"strconv"
	"strings"

	"mullion/api"
	"mullion/node"
	"mullion/scan"
)

// The chapter's table, a line for each form that a Kind has: the Kind; what its Text is (- nothing, n a name, o a name or nothing, 1 and 2 an operator of one and of two); the least and the greatest N; and what stands in its List: a regular expression of Kinds, each with a comma behind, where S, E and T stand for a statement, an expression and a type.
const table = `
1 - 0 0 (2,|3,)*
2 n 0 0 (5,){0,16}
3 n 0 0 4,6,7,20,
4 - 0 0 (8,){0,16}
5 n 0 0 T
6 - 0 0 (5,){0,16}
7 - 0 0 T?
8 n 1 3 ()
10 n 0 0 ()
11 - 0 0 T
12 - 0 0 T
13 - 0 0 T{0,16}
13 - 1 1 T{1,17}
20 - 0 0 S*
21 n 0 0 E
22 n 0 0 T
23 - 0 0 (30,|35,|36,)E
24 - 0 0 34,|39,
25 - 0 0 E20,(20,|25,)?
26 - 0 0 E20,
27 - 0 1 ()
28 - 0 0 E?
29 - 0 1 34,
30 n 0 0 ()
31 - 0 18446744073709551615 ()
32 - 0 1 ()
33 1 0 0 E
33 2 0 0 EE
34 - 0 0 EE{0,16}
35 n 0 0 E
36 - 0 0 E(E|11,|12,){1,16}
37 n 0 0 E{0,16}
38 - 0 0 6,7,20,
39 - 0 0 E
40 - 0 0 TE
41 - 0 0 EE
42 - 0 0 (43,|44,)*(45,)?(43,|44,)*
43 o 0 0 E20,
44 - 0 0 EE20,
45 - 0 0 20,
`

const (
	opsOfOne = "- ^ !"
	opsOfTwo = "+ - * / % & | ^ << >> &^ && || == != < <= > >="
)

// row is a line of the table.
type row struct {
	text        string
	least, most uint64
	list        *regexp.Regexp
}

var rows = readTable()

func readTable() map[int][]row {
	sorts := strings.NewReplacer("S", "(2[0-9],|41,|42,)", "E", "(3[0-9],|40,)", "T", "(1[0-3],)")
	all := map[int][]row{}
	for line := range strings.Lines(strings.TrimSpace(table)) {
		w := strings.Fields(line)
		kind, _ := strconv.Atoi(w[0])
		least, _ := strconv.ParseUint(w[2], 10, 64)
		most, _ := strconv.ParseUint(w[3], 10, 64)
		all[kind] = append(all[kind], row{w[1], least, most, regexp.MustCompile("^(" + sorts.Replace(w[4]) + ")$")})
	}
	return all
}

func (r row) fits(n api.Node) bool {
	kinds := ""
	for _, p := range n.List {
		kinds += strconv.Itoa(p.Kind) + ","
	}
	return r.fitsText(n.Text) && r.least <= n.N && n.N <= r.most && r.list.MatchString(kinds)
}

func (r row) fitsText(s string) bool {
	switch r.text {
	case "n":
		return scan.Name(s)
	case "o":
		return s == "" || scan.Name(s)
	case "1":
		return slices.Contains(strings.Fields(opsOfOne), s)
	case "2":
		return slices.Contains(strings.Fields(opsOfTwo), s)
	}
	return s == ""
}

// modelForm tells whether all in n fits the table.
func modelForm(n api.Node) bool {
	if !slices.ContainsFunc(rows[n.Kind], func(r row) bool { return r.fits(n) }) {
		return false
	}
	for _, p := range n.List {
		if !modelForm(p) {
			return false
		}
	}
	return true
}

func modelSize(n api.Node) int {
	size := 1
	for _, p := range n.List {
		size += modelSize(p)
	}
	return size
}

func modelDepth(n api.Node) int {
	depth := 0
	for _, p := range n.List {
		depth = max(depth, modelDepth(p)+1)
	}
	return depth
}

// modelSort: which roots the sorts 0 (a program) to 3 have.
func modelSort(sort, kind int) bool {
	list := [][]int{{1}, {20, 21, 22, 23, 24, 25, 26, 27, 28, 29, 41, 42}, {30, 31, 32, 33, 34, 35, 36, 37, 38, 39, 40}, {10, 11, 12, 13}}
	return slices.Contains(list[sort], kind)
}

func modelSound(n api.Node, sort int) api.Errno {
	if modelSort(sort, n.Kind) && modelForm(n) && modelSize(n) <= api.MaxNodes && modelDepth(n) <= api.MaxNest {
		return api.OK
	}
	return api.ErrForm
}

// Trees.

func is(kind int, text string, n uint64, list ...api.Node) api.Node {
	return api.Node{Kind: kind, Text: text, N: n, List: list}
}

func bare(kind int, list ...api.Node) api.Node { return is(kind, "", 0, list...) }

func name(s string) api.Node     { return is(node.Name, s, 0) }
func typeName(s string) api.Node { return is(node.TypeName, s, 0) }
func num(n uint64) api.Node      { return is(node.Number, "", n) }

func block(list ...api.Node) api.Node  { return bare(node.Block, list...) }
func result(list ...api.Node) api.Node { return bare(node.Result, list...) }
func params(list ...api.Node) api.Node { return bare(node.Params, list...) }
func field(s string) api.Node          { return is(node.Field, s, 0, typeName("int")) }
func call(list ...api.Node) api.Node {
	return bare(node.Call, append([]api.Node{name("f")}, list...)...)
}
func op(s string, list ...api.Node) api.Node { return is(node.Operator, s, 0, list...) }
func lit(list ...api.Node) api.Node          { return is(node.Literal, "P", 0, list...) }
func index(list ...api.Node) api.Node {
	return bare(node.Index, append([]api.Node{name("s")}, list...)...)
}
func funcType(n uint64, list ...api.Node) api.Node    { return is(node.FuncType, "", n, list...) }
func receiveCase(s string, list ...api.Node) api.Node { return is(node.ReceiveCase, s, 0, list...) }

func fn(typeParams, takes, res, body api.Node) api.Node {
	return is(node.Func, "f", 0, typeParams, takes, res, body)
}

func plainFn(body api.Node) api.Node {
	return fn(bare(node.TypeParams), params(), result(), body)
}

// times answers a list with n many times in it.
func times(many int, n api.Node) []api.Node {
	return slices.Repeat([]api.Node{n}, many)
}

// samples: sound nodes of each Kind, in each of its forms, with as little and as much in them as there may be.
func samples() []api.Node {
	tp := is(node.TypeParam, "T", 1)
	all := []api.Node{
		bare(node.Program), bare(node.Program, is(node.Struct, "P", 0), plainFn(block()), is(node.Struct, "Q", 0, field("x")), plainFn(block())),
		is(node.Struct, "P", 0), is(node.Struct, "P", 0, field("x"), field("x")), is(node.Struct, "P", 0, times(16, field("x"))...),
		plainFn(block()), fn(bare(node.TypeParams, tp), params(field("x")), result(typeName("T")), block(bare(node.Return, name("x")))),
		bare(node.TypeParams), bare(node.TypeParams, tp), bare(node.TypeParams, times(16, tp)...),
		field("x"), is(node.Field, "x", 0, funcType(0)), params(), params(field("x")), params(times(16, field("x"))...),
		result(), result(typeName("T")), tp, is(node.TypeParam, "T", 2), is(node.TypeParam, "T", 3),
	}
	return append(append(append(append(all, typeSamples()...), statementSamples()...), expressionSamples()...), caseSamples()...)
}

func typeSamples() []api.Node {
	x := typeName("T")
	return []api.Node{
		x, bare(node.SliceType, x), bare(node.ChanType, x), bare(node.ChanType, bare(node.SliceType, funcType(0))),
		funcType(0), funcType(0, x), funcType(1, x), funcType(1, x, x), funcType(0, times(16, x)...), funcType(1, times(17, x)...),
	}
}

func statementSamples() []api.Node {
	x, b, get := name("x"), block(), bare(node.Receive, name("c"))
	all := []api.Node{
		b, block(times(20, b)...), is(node.Define, "x", 0, num(1)), is(node.Var, "x", 0, typeName("T")),
		bare(node.Assign, x, num(1)), bare(node.Assign, is(node.Dot, "f", 0, call()), num(1)), bare(node.Assign, index(x), x),
		bare(node.Eval, call()), bare(node.Eval, get),
		bare(node.If, x, b), bare(node.If, x, b, b), bare(node.If, x, b, bare(node.If, x, b)), bare(node.For, x, b),
		is(node.Leave, "", 0), is(node.Leave, "", 1), bare(node.Return), bare(node.Return, x),
		is(node.Start, "", 0, call()), is(node.Start, "", 1, call(x)), bare(node.Send, x, num(2)), bare(node.Select),
	}
	for _, c := range caseSamples() {
		if c.Kind != node.DefaultCase {
			all = append(all, bare(node.Select, c), bare(node.Select, bare(node.DefaultCase, b), c), bare(node.Select, times(20, c)...))
		} else {
			all = append(all, bare(node.Select, c))
		}
	}
	return all
}

func caseSamples() []api.Node {
	return []api.Node{
		receiveCase("x", name("c"), block()), receiveCase("", name("c"), block()),
		bare(node.SendCase, name("c"), num(1), block()), bare(node.DefaultCase, block()),
	}
}

func expressionSamples() []api.Node {
	x := name("x")
	all := []api.Node{
		x, name("make"), num(0), num(1), num(1<<64 - 1), is(node.Flag, "", 0), is(node.Flag, "", 1),
		call(), call(x), call(times(16, x)...), bare(node.Call, call()), is(node.Dot, "f", 0, x),
		index(x), index(bare(node.SliceType, typeName("T")), x, bare(node.ChanType, typeName("T"))), index(times(16, x)...), index(times(16, bare(node.SliceType, typeName("T")))...),
		lit(), lit(x), lit(times(16, x)...), bare(node.FuncLiteral, params(), result(), block()), bare(node.FuncLiteral, params(field("x")), result(typeName("T")), block()),
		bare(node.Receive, x), bare(node.Make, typeName("T"), x),
	}
	for _, s := range strings.Fields(opsOfOne) {
		all = append(all, op(s, x))
	}
	for _, s := range strings.Fields(opsOfTwo) {
		all = append(all, op(s, x, num(1)))
	}
	return all
}

// inTree puts n into what it may stand in, up to a program; what may stand nowhere is answered as it is.
func inTree(n api.Node) api.Node {
	switch k := n.Kind; {
	case k == node.Struct || k == node.Func:
		return bare(node.Program, n)
	case k == node.TypeParams:
		return inTree(fn(n, params(), result(), block()))
	case k == node.Field:
		return inTree(params(n))
	case k == node.Params:
		return inTree(bare(node.FuncLiteral, n, result(), block()))
	case k == node.Result:
		return inTree(fn(bare(node.TypeParams), params(), n, block()))
	case k == node.TypeParam:
		return inTree(bare(node.TypeParams, n))
	case modelSort(3, k):
		return inTree(is(node.Var, "x", 0, n))
	case k == node.Block:
		return inTree(plainFn(n))
	case modelSort(1, k):
		return inTree(block(n))
	case modelSort(2, k):
		return inTree(is(node.Define, "x", 0, n))
	case k >= node.ReceiveCase && k <= node.DefaultCase:
		return inTree(bare(node.Select, n))
	}
	return n
}

// spoilings: n with another Kind, Text or N, and with nodes more, less, and others in its List; some of them are sound.
func spoilings(n api.Node) []api.Node {
	var all []api.Node
	for kind := -2; kind <= 64; kind++ {
		all = append(all, is(kind, n.Text, n.N, n.List...))
	}
	for _, kind := range []int{-1 << 63, -1<<63 + 20, 1<<32 + 30, 1<<63 - 1} {
		all = append(all, is(kind, n.Text, n.N, n.List...))
	}
	for _, s := range append(noNames(), append(strings.Fields(opsOfOne+" "+opsOfTwo), "", "x")...) {
		all = append(all, is(n.Kind, s, n.N, n.List...))
	}
	for _, k := range []uint64{0, 1, 2, 3, 4, 5, 16, 17, 1 << 32, 1 << 63, 1<<64 - 1} {
		all = append(all, is(n.Kind, n.Text, k, n.List...))
	}
	for i := range n.List {
		all = append(all, is(n.Kind, n.Text, n.N, slices.Delete(slices.Clone(n.List), i, i+1)...))
	}
	for _, p := range onePerKind() {
		for i := range len(n.List) + 1 {
			all = append(all, is(n.Kind, n.Text, n.N, slices.Insert(slices.Clone(n.List), i, p)...))
			if i < len(n.List) {
				all = append(all, is(n.Kind, n.Text, n.N, slices.Replace(slices.Clone(n.List), i, i+1, p)...))
			}
		}
	}
	return all
}

// onePerKind: a sound node of each Kind, and two that are of none.
func onePerKind() []api.Node {
	all := []api.Node{bare(0), bare(9)}
	seen := map[int]int{}
	for _, n := range samples() {
		if seen[n.Kind] == 0 {
			all = append(all, n)
		}
		seen[n.Kind]++
	}
	return all
}

// noNames: texts that are neither a name nor an operator.
func noNames() []string {
	return []string{
		"1", "1x", " ", "x ", " x", "x\n", "a b", "a.b", "\u00d7", "a\u00f7", "\xff", "x\xc3", "\ufffd", "\x00", strings.Repeat("n", 65), strings.Repeat("\u00e9", 33),
		"func", "type", "struct", "if", "else", "for", "break", "continue", "return", "go", "defer", "select", "case", "default", "chan", "var", "true", "false",
		"=", ":=", "<-", "(", ")", "[", "]", "{", "}", ",", ".", ":", ";", "!!", "--", "+ ", " -", "<<=", "&&&", "=>", "!-",
	}
}

var ready = samples()

// someNode makes a sound node of that Kind, with at most about deep nodes within one another.
func someNode(r *rand.Rand, kind, deep int) api.Node {
	for {
		n := ready[r.Intn(len(ready))]
		if n.Kind == kind {
			return grow(r, n, deep)
		}
	}
}

// grow puts other sound nodes of the same sorts into the places of n.
func grow(r *rand.Rand, n api.Node, deep int) api.Node {
	list := []api.Node{}
	for _, p := range n.List {
		if deep > 0 && len(n.List) < 10 {
			p = someNode(r, sameSort(r, n.Kind, p.Kind), deep-1)
		}
		list = append(list, p)
	}
	n.List = list
	n.At = r.Intn(100)
	return n
}

// sameSort answers a Kind that may stand wherever the Kind stands in a node of the Kind around.
func sameSort(r *rand.Rand, around, kind int) int {
	switch {
	case kind == node.Block || around == node.Assign || around == node.Eval || around == node.Start || around == node.If && kind == node.If:
		return kind
	case around == node.Index && modelSort(3, kind):
		return kind
	case modelSort(3, kind):
		return 10 + r.Intn(4)
	case modelSort(1, kind):
		return []int{20, 21, 22, 23, 24, 25, 26, 27, 28, 29, 41, 42}[r.Intn(12)]
	case modelSort(2, kind):
		return 30 + r.Intn(11)
	}
	return kind
}
