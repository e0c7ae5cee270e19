package print_test

import (
	"slices"
	"strings"
	"testing"

	"mullion/api"
	"mullion/node"
	"mullion/parse"
	"mullion/print"
	"mullion/tree"
)

// Of operators of two, from the weakest on.
var strengths = [][]string{{"||"}, {"&&"}, {"==", "!=", "<", "<=", ">", ">="}, {"+", "-", "|", "^"}, {"*", "/", "%", "<<", ">>", "&", "&^"}}

var opsOfOne = []string{"-", "^", "!"}

// binds: how strong an operator of two binds, by the table.
func binds(op string) int {
	return 1 + slices.IndexFunc(strengths, func(ops []string) bool { return slices.Contains(ops, op) })
}

// round puts a parenthesis about a text, if it is asked for.
func round(isAsked bool, s string) string {
	if isAsked {
		return "(" + s + ")"
	}
	return s
}

// ofOne answers n with each operator of one, and as what is received from.
func ofOne(n api.Node, s string) []row {
	rows := []row{{receive(n), "<-" + s}}
	for _, sign := range opsOfOne {
		rows = append(rows, row{op(sign, n), sign + s})
	}
	return rows
}

// held answers n called, indexed, and with a field taken.
func held(n api.Node, s string) []row {
	a := name("a")
	return []row{
		{invoke(n), s + "()"},
		{invoke(n, a), s + "(a)"},
		{index(n, a), s + "[a]"},
		{index(n, slice(typeName("X"))), s + "[[]X]"},
		{dot(n, "a"), s + ".a"},
	}
}

// TestOperatorsWithinOperators: each operator of two as the left and as the right part of each other one.
func TestOperatorsWithinOperators(t *testing.T) {
	a, b, c := name("a"), name("b"), name("c")
	for _, p := range opsOfTwo {
		for _, q := range opsOfTwo {
			left := round(binds(q) < binds(p), "a "+q+" b")
			right := round(binds(q) <= binds(p), "b "+q+" c")
			wantText(t, expr, op(p, op(q, a, b), c), left+" "+p+" c")
			wantText(t, expr, op(p, a, op(q, b, c)), "a "+p+" "+right)
			wantText(t, expr, op(p, op(q, a, b), op(q, b, c)), left+" "+p+" "+right)
		}
	}
	for _, r := range []row{
		{op("-", op("-", op("-", a, b), c), a), "a - b - c - a"},
		{op("-", a, op("-", b, op("-", c, a))), "a - (b - (c - a))"},
		{op("||", op("&&", op("==", op("+", op("*", a, b), c), a), b), c), "a * b + c == a && b || c"},
		{op("||", c, op("&&", b, op("==", a, op("+", c, op("*", a, b))))), "c || b && a == c + a * b"},
		{op("*", op("+", op("==", op("&&", op("||", a, b), c), a), b), c), "((((a || b) && c) == a) + b) * c"},
		{op("*", c, op("+", b, op("==", a, op("&&", c, op("||", a, b))))), "c * (b + (a == (c && (a || b))))"},
		{op("==", op("==", a, b), op("==", a, b)), "a == b == (a == b)"},
	} {
		wantText(t, expr, r.n, r.text)
	}
}

// TestOperatorsOfOne: within one another, about operators of two, and as their parts.
func TestOperatorsOfOne(t *testing.T) {
	a, b := name("a"), name("b")
	for _, p := range opsOfTwo {
		two := op(p, a, b)
		for _, r := range ofOne(two, "(a "+p+" b)") {
			wantText(t, expr, r.n, r.text)
			wantText(t, expr, op(p, r.n, r.n), r.text+" "+p+" "+r.text)
		}
		for _, r := range ofOne(a, "a") {
			wantText(t, expr, op(p, r.n, b), r.text+" "+p+" b")
			wantText(t, expr, op(p, b, r.n), "b "+p+" "+r.text)
		}
	}
	for _, r := range ofOne(a, "a") {
		for _, q := range ofOne(r.n, r.text) {
			wantText(t, expr, q.n, q.text)
		}
	}
}

// TestHolders: what is called, indexed, or of which a field is taken stands in a parenthesis, if it is an operator, a receipt or a func literal, and else in none.
func TestHolders(t *testing.T) {
	enclosed := map[int]bool{node.Operator: true, node.Receive: true, node.FuncLiteral: true}
	for _, r := range expressionRows() {
		for _, h := range held(r.n, round(enclosed[r.n.Kind], r.text)) {
			wantText(t, expr, h.n, h.text)
			for _, again := range held(h.n, h.text) {
				wantText(t, expr, again.n, again.text)
			}
			for _, one := range ofOne(h.n, h.text) {
				wantText(t, expr, one.n, one.text)
			}
		}
	}
}

// TestNoParenthesis: where an expression stands as it is, whatever it is.
func TestNoParenthesis(t *testing.T) {
	a := name("a")
	for _, r := range expressionRows() {
		for _, x := range []row{
			{invoke(a, r.n, r.n), "a(" + r.text + ", " + r.text + ")"},
			{index(a, r.n, r.n), "a[" + r.text + ", " + r.text + "]"},
			{lit("P", r.n, r.n), "P{" + r.text + ", " + r.text + "}"},
			{making(typeName("X"), r.n), "make(X, " + r.text + ")"},
		} {
			wantText(t, expr, x.n, x.text)
		}
		for _, x := range []row{
			{define("a", r.n), "a := " + r.text},
			{assign(a, r.n), "a = " + r.text},
			{assign(dot(a, "a"), r.n), "a.a = " + r.text},
			{send(r.n, r.n), r.text + " <- " + r.text},
			{ret(r.n), "return " + r.text},
			{start(0, invoke(a, r.n)), "go a(" + r.text + ")"},
			{choose(sendCase(r.n, r.n)), "select {\ncase " + r.text + " <- " + r.text + ":\n}"},
		} {
			wantText(t, expr, closure(params(), result(), block(x.n)), "func() {\n\t"+deeper(x.text, 1)+"\n}")
		}
	}
}

// TestCaseReceives: what a case receives from is within a receipt.
func TestCaseReceives(t *testing.T) {
	for _, r := range expressionRows() {
		s := round(r.n.Kind == node.Operator && len(r.n.List) == 2, r.text)
		for _, ahead := range []string{"", "x"} {
			want := "func() {\n\tselect {\n\tcase " + strings.Repeat(ahead+" := ", len(ahead)) + "<-" + deeper(s, 1) + ":\n\t}\n}"
			wantText(t, expr, closure(params(), result(), block(choose(receiveCase(ahead, r.n)))), want)
		}
	}
}

// wantHead asks for this text as the head of an if, of the if behind an else, and of a for.
func wantHead(t *testing.T, n api.Node, s string) {
	t.Helper()
	a := name("a")
	for _, r := range []row{
		{branch(n, block()), "if " + s + " {\n}"},
		{branch(n, block(), block()), "if " + s + " {\n} else {\n}"},
		{branch(a, block(), branch(n, block())), "if a {\n} else if " + s + " {\n}"},
		{branch(n, block(), branch(a, block())), "if " + s + " {\n} else if a {\n}"},
		{loop(n, block()), "for " + s + " {\n}"},
	} {
		wantText(t, expr, closure(params(), result(), block(r.n)), "func() {\n\t"+deeper(r.text, 1)+"\n}")
	}
}

// withLiterals: expressions with a struct literal in them, in each kind of node that may stand in one.
func withLiterals() []row {
	a, p := name("a"), lit("P", num(1))
	inner := func(n api.Node) api.Node { return closure(params(), result(), block(n)) }
	rows := []row{
		{lit("P"), "P{}"}, {p, "P{1}"}, {op("==", p, a), "P{1} == a"}, {op("==", a, p), "a == P{1}"}, {op("!", p), "!P{1}"}, {receive(p), "<-P{1}"},
		{invoke(p), "P{1}()"}, {invoke(a, p), "a(P{1})"}, {invoke(a, a, p), "a(a, P{1})"}, {dot(p, "b"), "P{1}.b"}, {index(p, a), "P{1}[a]"}, {index(a, p), "a[P{1}]"}, {index(a, slice(typeName("X")), p), "a[[]X, P{1}]"},
		{lit("Q", p), "Q{P{1}}"}, {making(typeName("X"), p), "make(X, P{1})"}, {op("*", op("+", a, p), a), "(a + P{1}) * a"}, {invoke(op("-", p), a), "(-P{1})(a)"}, {invoke(a, invoke(a, op("!", dot(p, "b")))), "a(a(!P{1}.b))"},
	}
	for _, r := range []row{
		{block(ret(p)), "{\n\t\treturn P{1}\n\t}"}, {define("x", p), "x := P{1}"}, {assign(dot(p, "b"), a), "P{1}.b = a"}, {assign(a, p), "a = P{1}"}, {eval(receive(p)), "<-P{1}"},
		{branch(p, block()), "if (P{1}) {\n\t}"}, {branch(a, block(ret(p))), "if a {\n\t\treturn P{1}\n\t}"}, {branch(a, block(), block(ret(p))), "if a {\n\t} else {\n\t\treturn P{1}\n\t}"}, {branch(a, block(), branch(p, block())), "if a {\n\t} else if (P{1}) {\n\t}"},
		{loop(p, block()), "for (P{1}) {\n\t}"}, {loop(a, block(ret(p))), "for a {\n\t\treturn P{1}\n\t}"}, {ret(p), "return P{1}"}, {start(0, invoke(a, p)), "go a(P{1})"}, {send(p, a), "P{1} <- a"}, {send(a, p), "a <- P{1}"},
		{choose(receiveCase("x", p)), "select {\n\tcase x := <-P{1}:\n\t}"}, {choose(receiveCase("", a, ret(p))), "select {\n\tcase <-a:\n\t\treturn P{1}\n\t}"}, {choose(sendCase(p, a)), "select {\n\tcase P{1} <- a:\n\t}"}, {choose(sendCase(a, p)), "select {\n\tcase a <- P{1}:\n\t}"},
		{choose(sendCase(a, a, ret(p))), "select {\n\tcase a <- a:\n\t\treturn P{1}\n\t}"}, {choose(defaultCase(ret(p))), "select {\n\tdefault:\n\t\treturn P{1}\n\t}"},
	} {
		rows = append(rows, row{inner(r.n), "func() {\n\t" + r.text + "\n}"}, row{invoke(a, inner(r.n)), "a(func() {\n\t" + r.text + "\n})"})
	}
	return rows
}

// TestHeads: a whole head stands in a parenthesis if a struct literal stands anywhere in it, and else in none.
func TestHeads(t *testing.T) {
	for _, r := range withLiterals() {
		wantHead(t, r.n, "("+r.text+")")
	}
	for _, r := range expressionRows() {
		wantHead(t, r.n, round(strings.Contains(r.text, "P{"), r.text))
	}
	// What looks like one, and is none: struct types' names, a block behind a name, a literal in the block.
	a := name("a")
	of := func(n api.Node) api.Node {
		return closure(params(field("a", typeName("P"))), result(typeName("P")), block(n))
	}
	wantHead(t, of(variable("P", typeName("P"))), "func(a P) P {\n\tvar P P\n}")
	wantHead(t, of(branch(name("P"), block(), branch(dot(a, "P"), block()))), "func(a P) P {\n\tif P {\n\t} else if a.P {\n\t}\n}")
	wantHead(t, op("==", name("P"), making(typeName("P"), a)), "P == make(P, a)")
	for _, r := range []row{
		{branch(a, block(ret(lit("P")))), "if a {\n\treturn P{}\n}"},
		{branch(a, block(), block(ret(lit("P")))), "if a {\n} else {\n\treturn P{}\n}"},
		{loop(a, block(branch(lit("P"), block(), branch(a, block())))), "for a {\n\tif (P{}) {\n\t} else if a {\n\t}\n}"},
		{branch(a, block(), branch(lit("P"), block())), "if a {\n} else if (P{}) {\n}"},
	} {
		wantText(t, expr, closure(params(), result(), block(r.n)), "func() {\n\t"+deeper(r.text, 1)+"\n}")
	}
}

// smallTrees answers all expressions of a few shapes with so many nodes besides lists of a func literal.
func smallTrees(size int) []api.Node {
	if size == 1 {
		return []api.Node{name("a"), closure(params(), result(), block()), lit("P")}
	}
	var all []api.Node
	for _, x := range smallTrees(size - 1) {
		all = append(all, op("-", x), receive(x), invoke(x), dot(x, "b"), lit("P", x), closure(params(), result(), block(branch(x, block()))), closure(params(), result(), block(choose(receiveCase("", x)))))
	}
	for left := 1; left < size-1; left++ {
		for _, x := range smallTrees(left) {
			for _, y := range smallTrees(size - 1 - left) {
				all = append(all, op("-", x, y), op("==", x, y), op("*", x, y), index(x, y))
			}
		}
	}
	return all
}

// TestSmallTrees: what is read of the text of any tree is the tree again; and without any one of its parentheses it would be another tree or none, but for those that the chapter asks for all the same: about a func literal and a head.
func TestSmallTrees(t *testing.T) {
	for size := 1; size <= 4; size++ {
		for _, n := range smallTrees(size) {
			s, e := print.Expr(n)
			if e != api.OK {
				t.Fatalf("Expr = %d", e)
			}
			if got, at, e := parse.Expr(s); e != api.OK || !tree.Same(got, n) {
				t.Fatalf("%q is read as %d at %d, %d", s, got.Kind, at, e)
			}
			for _, other := range withOneLess(s) {
				if got, _, e := parse.Expr(other); e == api.OK && tree.Same(got, n) {
					t.Fatalf("%q has a parenthesis more than %q", s, other)
				}
			}
		}
	}
}

// withOneLess answers s without one of its parentheses, for each that encloses an expression, but neither a func literal at its beginning nor a head.
func withOneLess(s string) []string {
	var all []string
	for i, c := range s {
		isList := i > 0 && strings.Contains("abc)]}", s[i-1:i])
		if c != '(' || isList || strings.HasPrefix(s[i:], "(func") || strings.HasSuffix(s[:i], "if ") {
			continue
		}
		end := closing(s, i)
		all = append(all, s[:i]+s[i+1:end]+s[end+1:])
	}
	return all
}

// closing answers where the parenthesis ends that begins there.
func closing(s string, at int) int {
	open := 0
	for i := at; i < len(s); i++ {
		switch s[i] {
		case '(':
			open++
		case ')':
			open--
		}
		if open == 0 {
			return i
		}
	}
	return -1
}
