package print_test

import (
	"strconv"
	"strings"
	"testing"

	"mullion/api"
	"mullion/parse"
	"mullion/print"
)

// call is one of the three calls, and what reads its texts.
type call struct {
	name  string
	write func(api.Node) (string, api.Errno)
	read  func(string) (api.Node, int, api.Errno)
}

var (
	text  = call{"Text", print.Text, parse.Parse}
	expr  = call{"Expr", print.Expr, parse.Expr}
	typed = call{"Type", print.Type, parse.Type}
	calls = []call{text, expr, typed}
)

// row is a tree, or a part of one, and its text.
type row struct {
	n    api.Node
	text string
}

// short answers the beginning of a text, for messages.
func short(s string) string {
	return strconv.Quote(s[:min(len(s), 250)])
}

// wantText asks for this text.
func wantText(t *testing.T, c call, n api.Node, want string) {
	t.Helper()
	if s, e := c.write(n); s != want || e != api.OK {
		t.Errorf("%s of a node %d = %s, %d\nnot %s", c.name, n.Kind, short(s), e, short(want))
	}
}

// wantFault asks for this error, and nothing beside it.
func wantFault(t *testing.T, c call, n api.Node, want api.Errno) {
	t.Helper()
	if s, e := c.write(n); s != "" || e != want {
		t.Errorf("%s of a node %d %q = %s, %d, not %d", c.name, n.Kind, n.Text, short(s), e, want)
	}
}

func TestExamples(t *testing.T) {
	for _, r := range [][2]string{
		{"(a + b) * c", "(a + b) * c"},
		{"a + (b * c)", "a + b * c"},
		{"a - (b - c)", "a - (b - c)"},
		{"-(a + b)", "-(a + b)"},
		{"- - x", "--x"},
		{"-(-(x))", "--x"},
	} {
		n, _, e := parse.Expr(r[0])
		if e != api.OK {
			t.Fatalf("%s is not read: %d", r[0], e)
		}
		wantText(t, expr, n, r[1])
	}
	a, b, c, x := name("a"), name("b"), name("c"), name("x")
	for _, r := range []row{
		{op("*", op("+", a, b), c), "(a + b) * c"},
		{op("+", a, op("*", b, c)), "a + b * c"},
		{op("-", a, op("-", b, c)), "a - (b - c)"},
		{op("-", op("+", a, b)), "-(a + b)"},
		{op("-", op("-", x)), "--x"},
	} {
		wantText(t, expr, r.n, r.text)
	}
}

// TestBinds: the operators of each strength, and what is no operator of two.
func TestBinds(t *testing.T) {
	for binds, ops := range map[int]string{5: "* / % << >> & &^", 4: "+ - | ^", 3: "== != < <= > >=", 2: "&&", 1: "||"} {
		for _, op := range strings.Fields(ops) {
			if n := print.Binds(op); n != binds {
				t.Errorf("Binds(%s) = %d, not %d", op, n, binds)
			}
			for _, s := range []string{" " + op, op + " ", op + "x", op + "\x00", "!" + op} {
				if n := print.Binds(s); n != 0 && s != "!=" {
					t.Errorf("Binds(%q) = %d, not 0", s, n)
				}
			}
		}
	}
	for _, s := range []string{
		"", " ", "!", "=", ":=", "<-", "(", ")", "[", "]", "{", "}", ",", ".", ":", ";", "~", "\xff", "\u00d7",
		"++", "--", "**", "||=", "&&&", "=<", "=>", "===", "<<=", "x", "1", "or", "and", "func", strings.Repeat("+", 100000),
	} {
		if n := print.Binds(s); n != 0 {
			t.Errorf("Binds(%s) = %d, not 0", short(s), n)
		}
	}
}

// TestTypes: each kind of type, with lists of none, one and several.
func TestTypes(t *testing.T) {
	for _, r := range typeRows() {
		wantText(t, typed, r.n, r.text)
	}
}

// TestExpressions: each kind of expression, with lists of none, one and several.
func TestExpressions(t *testing.T) {
	for _, r := range expressionRows() {
		wantText(t, expr, r.n, r.text)
		wantText(t, text, program(fn("f", block(ret(r.n)))), "func f() {\n\treturn "+deeper(r.text, 1)+"\n}\n")
		wantText(t, expr, invoke(name("g"), r.n, r.n), "g("+r.text+", "+r.text+")")
	}
}

// TestStatements: each statement, in a function, in blocks within blocks, in cases, and in func literals within expressions.
func TestStatements(t *testing.T) {
	for _, r := range statementRows() {
		for _, at := range surroundings() {
			wantText(t, at.c, at.around(r.n), at.ahead+deeper(r.text, at.tabs)+at.behind)
		}
	}
}

// TestLines: what stands on lines of its own stands there in its order.
func TestLines(t *testing.T) {
	var list []api.Node
	lines := ""
	for _, r := range statementRows() {
		list = append(list, r.n)
		lines += "\t" + deeper(r.text, 1) + "\n"
	}
	wantText(t, text, program(fn("f", block(list...))), "func f() {\n"+lines+"}\n")
	wantText(t, expr, closure(params(), result(), block(list...)), "func() {\n"+lines+"}")
	wantText(t, expr, closure(params(), result(), block(choose(defaultCase(list...)))), "func() {\n\tselect {\n\tdefault:\n"+deeper("\t"+strings.TrimSuffix(lines, "\n"), 1)+"\n\t}\n}")
}

// TestDeclarations: with and without fields, type parameters, parameters and a result; a program of none, one and several.
func TestDeclarations(t *testing.T) {
	var list []api.Node
	whole := ""
	for _, r := range declarationRows() {
		wantText(t, text, program(r.n), r.text)
		list = append(list, r.n)
		whole += r.text
	}
	wantText(t, text, program(), "")
	wantText(t, text, program(list...), whole)
}

// TestNames: a name stands as it is, wherever it stands; only as a constraint, any, comparable and integer are words.
func TestNames(t *testing.T) {
	for _, s := range []string{"x", "_", "any", "comparable", "integer", "make", "len", "int8", "\u00e9", "\u024f9", strings.Repeat("n", 64), strings.Repeat("\u00e9", 32)} {
		wantText(t, typed, typeName(s), s)
		wantText(t, expr, dot(invoke(index(name(s), name(s)), lit(s, name(s))), s), s+"["+s+"]("+s+"{"+s+"})."+s)
		wantText(t, text, program(structType(s, field(s, typeName(s)))), "type "+s+" struct {\n\t"+s+" "+s+"\n}\n")
		body := block(define(s, name(s)), variable(s, typeName(s)), choose(receiveCase(s, name(s))))
		wantText(t, text, program(function(s, typeParams(typeParam(s, 1)), params(field(s, typeName(s))), result(typeName(s)), body)),
			"func "+s+"["+s+" any]("+s+" "+s+") "+s+" {\n\t"+s+" := "+s+"\n\tvar "+s+" "+s+"\n\tselect {\n\tcase "+s+" := <-"+s+":\n\t}\n}\n")
	}
}

// TestPlaces: where the nodes stand in a text that was read shows in nothing.
func TestPlaces(t *testing.T) {
	for _, r := range expressionRows() {
		for _, at := range []int{-1 << 63, -1, 1, 65536, 1<<63 - 1} {
			wantText(t, expr, placed(r.n, at), r.text)
		}
	}
}
