package print_test

import (
	"slices"
	"strings"

	"mullion/api"
	"mullion/node"
)

var opsOfTwo = strings.Fields("+ - * / % & | ^ << >> &^ && || == != < <= > >=")

// Trees.

func is(kind int, text string, n uint64, list ...api.Node) api.Node {
	return api.Node{Kind: kind, Text: text, N: n, List: list}
}

func bare(kind int, list ...api.Node) api.Node { return is(kind, "", 0, list...) }

func program(list ...api.Node) api.Node                { return bare(node.Program, list...) }
func structType(s string, fields ...api.Node) api.Node { return is(node.Struct, s, 0, fields...) }
func function(s string, list ...api.Node) api.Node     { return is(node.Func, s, 0, list...) }
func typeParams(list ...api.Node) api.Node             { return bare(node.TypeParams, list...) }
func typeParam(s string, con uint64) api.Node          { return is(node.TypeParam, s, con) }
func field(s string, t api.Node) api.Node              { return is(node.Field, s, 0, t) }
func params(list ...api.Node) api.Node                 { return bare(node.Params, list...) }
func result(list ...api.Node) api.Node                 { return bare(node.Result, list...) }
func typeName(s string) api.Node                       { return is(node.TypeName, s, 0) }
func slice(t api.Node) api.Node                        { return bare(node.SliceType, t) }
func channel(t api.Node) api.Node                      { return bare(node.ChanType, t) }
func takes(list ...api.Node) api.Node                  { return is(node.FuncType, "", 0, list...) }
func gives(list ...api.Node) api.Node                  { return is(node.FuncType, "", 1, list...) }
func block(list ...api.Node) api.Node                  { return bare(node.Block, list...) }
func define(s string, e api.Node) api.Node             { return is(node.Define, s, 0, e) }
func variable(s string, t api.Node) api.Node           { return is(node.Var, s, 0, t) }
func assign(l, e api.Node) api.Node                    { return bare(node.Assign, l, e) }
func eval(e api.Node) api.Node                         { return bare(node.Eval, e) }
func branch(list ...api.Node) api.Node                 { return bare(node.If, list...) }
func loop(e, b api.Node) api.Node                      { return bare(node.For, e, b) }
func leave(n uint64) api.Node                          { return is(node.Leave, "", n) }
func ret(list ...api.Node) api.Node                    { return bare(node.Return, list...) }
func start(n uint64, e api.Node) api.Node              { return is(node.Start, "", n, e) }
func send(c, e api.Node) api.Node                      { return bare(node.Send, c, e) }
func choose(cases ...api.Node) api.Node                { return bare(node.Select, cases...) }
func defaultCase(list ...api.Node) api.Node            { return bare(node.DefaultCase, block(list...)) }
func name(s string) api.Node                           { return is(node.Name, s, 0) }
func num(n uint64) api.Node                            { return is(node.Number, "", n) }
func flag(n uint64) api.Node                           { return is(node.Flag, "", n) }
func op(s string, list ...api.Node) api.Node           { return is(node.Operator, s, 0, list...) }
func dot(e api.Node, s string) api.Node                { return is(node.Dot, s, 0, e) }
func lit(s string, list ...api.Node) api.Node          { return is(node.Literal, s, 0, list...) }
func closure(list ...api.Node) api.Node                { return bare(node.FuncLiteral, list...) }
func receive(e api.Node) api.Node                      { return bare(node.Receive, e) }
func making(t, e api.Node) api.Node                    { return bare(node.Make, t, e) }
func invoke(list ...api.Node) api.Node                 { return bare(node.Call, list...) }
func index(list ...api.Node) api.Node                  { return bare(node.Index, list...) }
func receiveCase(s string, c api.Node, list ...api.Node) api.Node {
	return is(node.ReceiveCase, s, 0, c, block(list...))
}
func sendCase(c, e api.Node, list ...api.Node) api.Node {
	return bare(node.SendCase, c, e, block(list...))
}

// fn: a function of nothing but a block.
func fn(s string, b api.Node) api.Node { return function(s, typeParams(), params(), result(), b) }

// times answers a list with n many times in it.
func times(many int, n api.Node) []api.Node { return slices.Repeat([]api.Node{n}, many) }

// placed answers n with all places set to at.
func placed(n api.Node, at int) api.Node {
	list := []api.Node{}
	for _, p := range n.List {
		list = append(list, placed(p, at))
	}
	n.List, n.At = list, at
	return n
}

// deeper puts so many tabs ahead of all lines of a text but the first one.
func deeper(s string, tabs int) string {
	return strings.ReplaceAll(s, "\n", "\n"+strings.Repeat("\t", tabs))
}

// many: a text that many times, with commas and blanks between.
func many(n int, s string) string { return strings.Join(slices.Repeat([]string{s}, n), ", ") }

func typeRows() []row {
	x, y, z := typeName("X"), typeName("Y"), typeName("Z")
	return []row{
		{x, "X"},
		{slice(x), "[]X"},
		{slice(slice(x)), "[][]X"},
		{channel(x), "chan X"},
		{channel(channel(x)), "chan chan X"},
		{channel(slice(channel(x))), "chan []chan X"},
		{takes(), "func()"},
		{takes(x), "func(X)"},
		{takes(x, y), "func(X, Y)"},
		{takes(x, y, z), "func(X, Y, Z)"},
		{takes(times(16, x)...), "func(" + many(16, "X") + ")"},
		{gives(x), "func() X"},
		{gives(x, y), "func(X) Y"},
		{gives(x, y, z), "func(X, Y) Z"},
		{gives(times(17, x)...), "func(" + many(16, "X") + ") X"},
		{takes(takes()), "func(func())"},
		{takes(gives(x)), "func(func() X)"},
		{gives(takes()), "func() func()"},
		{gives(takes(), gives(x)), "func(func()) func() X"},
		{gives(gives(x, y), gives(y, x)), "func(func(X) Y) func(Y) X"},
		{slice(takes(slice(x), channel(y))), "[]func([]X, chan Y)"},
		{channel(gives(channel(x))), "chan func() chan X"},
	}
}

func expressionRows() []row {
	a, b, c, x := name("a"), name("b"), name("c"), typeName("X")
	empty := closure(params(), result(), block())
	rows := []row{
		{a, "a"},
		{num(0), "0"},
		{num(7), "7"},
		{num(31), "31"},
		{num(1<<63 - 1), "9223372036854775807"},
		{num(1<<64 - 1), "18446744073709551615"},
		{flag(0), "false"},
		{flag(1), "true"},
		{op("-", a), "-a"},
		{op("^", a), "^a"},
		{op("!", a), "!a"},
		{op("-", num(5)), "-5"},
		{receive(a), "<-a"},
		{invoke(a), "a()"},
		{invoke(a, b), "a(b)"},
		{invoke(a, b, c), "a(b, c)"},
		{invoke(append([]api.Node{a}, times(16, b)...)...), "a(" + many(16, "b") + ")"},
		{invoke(num(5), flag(1)), "5(true)"},
		{dot(a, "b"), "a.b"},
		{dot(num(5), "b"), "5.b"},
		{dot(flag(0), "b"), "false.b"},
		{index(a, b), "a[b]"},
		{index(a, slice(x)), "a[[]X]"},
		{index(a, channel(x)), "a[chan X]"},
		{index(a, b, slice(x), c, channel(x)), "a[b, []X, c, chan X]"},
		{index(a, slice(takes()), channel(gives(x)), b), "a[[]func(), chan func() X, b]"},
		{index(num(5), num(6)), "5[6]"},
		{lit("P"), "P{}"},
		{lit("P", a), "P{a}"},
		{lit("P", a, b), "P{a, b}"},
		{lit("P", lit("Q", a), lit("Q")), "P{Q{a}, Q{}}"},
		{lit("P", times(16, a)...), "P{" + many(16, "a") + "}"},
		{making(x, a), "make(X, a)"},
		{making(channel(x), num(1)), "make(chan X, 1)"},
		{making(takes(), op("+", a, b)), "make(func(), a + b)"},
		{making(gives(x, x), making(slice(x), a)), "make(func(X) X, make([]X, a))"},
		{invoke(name("make"), a, b), "make(a, b)"},
		{invoke(name("make")), "make()"},
		{empty, "func() {\n}"},
		{closure(params(field("a", x)), result(), block()), "func(a X) {\n}"},
		{closure(params(field("a", x), field("b", slice(x))), result(channel(x)), block()), "func(a X, b []X) chan X {\n}"},
		{closure(params(), result(takes()), block()), "func() func() {\n}"},
		{closure(params(field("a", takes())), result(gives(x)), block(ret(a))), "func(a func()) func() X {\n\treturn a\n}"},
		{invoke(a, empty, empty), "a(func() {\n}, func() {\n})"},
		{op("+", empty, empty), "func() {\n} + func() {\n}"},
		{op("-", empty), "-func() {\n}"},
		{closure(params(), result(), block(ret(closure(params(), result(), block(eval(invoke(a, empty))))))), "func() {\n\treturn func() {\n\t\ta(func() {\n\t\t})\n\t}\n}"},
		{index(invoke(dot(index(invoke(a), b), "c"), a), c), "a()[b].c(a)[c]"},
		{dot(lit("P", a), "b"), "P{a}.b"},
		{invoke(lit("P"), lit("Q")), "P{}(Q{})"},
		{index(making(slice(x), a), b), "make([]X, a)[b]"},
	}
	for _, s := range opsOfTwo {
		rows = append(rows, row{op(s, a, b), "a " + s + " b"})
	}
	return rows
}

func statementRows() []row {
	a, b, c, x := name("a"), name("b"), name("c"), typeName("X")
	f := invoke(name("f"))
	simple := closure(params(), result(), block(eval(f)))
	return append([]row{
		{block(), "{\n}"},
		{block(block()), "{\n\t{\n\t}\n}"},
		{block(block(block(), block()), block()), "{\n\t{\n\t\t{\n\t\t}\n\t\t{\n\t\t}\n\t}\n\t{\n\t}\n}"},
		{block(eval(f), leave(0), ret()), "{\n\tf()\n\tbreak\n\treturn\n}"},
		{define("a", num(1)), "a := 1"},
		{define("a", op("+", b, c)), "a := b + c"},
		{define("a", receive(c)), "a := <-c"},
		{define("a", simple), "a := func() {\n\tf()\n}"},
		{variable("a", x), "var a X"},
		{variable("a", gives(slice(x), channel(x))), "var a func([]X) chan X"},
		{assign(a, b), "a = b"},
		{assign(dot(a, "b"), op("-", c)), "a.b = -c"},
		{assign(index(a, b), receive(c)), "a[b] = <-c"},
		{assign(index(lit("P", a), b), lit("P", a)), "P{a}[b] = P{a}"},
		{eval(f), "f()"},
		{eval(invoke(dot(a, "b"), c)), "a.b(c)"},
		{eval(receive(a)), "<-a"},
		{eval(receive(receive(a))), "<-<-a"},
		{eval(invoke(a, simple, b, simple)), "a(func() {\n\tf()\n}, b, func() {\n\tf()\n})"},
		{leave(0), "break"},
		{leave(1), "continue"},
		{ret(), "return"},
		{ret(a), "return a"},
		{ret(op("==", a, b)), "return a == b"},
		{ret(simple), "return func() {\n\tf()\n}"},
		{start(0, f), "go f()"},
		{start(1, invoke(dot(a, "b"), c, a)), "defer a.b(c, a)"},
		{start(0, invoke(a, simple)), "go a(func() {\n\tf()\n})"},
		{send(a, b), "a <- b"},
		{send(receive(a), receive(b)), "<-a <- <-b"},
		{send(op("+", a, b), op("-", c)), "a + b <- -c"},
		{send(simple, simple), "func() {\n\tf()\n} <- func() {\n\tf()\n}"},
	}, blockRows()...)
}

// blockRows: statements with blocks.
func blockRows() []row {
	a, b, c := name("a"), name("b"), name("c")
	f := eval(invoke(name("f")))
	simple := closure(params(), result(), block(f))
	return []row{
		{branch(a, block()), "if a {\n}"},
		{branch(op("<", a, b), block(f, f)), "if a < b {\n\tf()\n\tf()\n}"},
		{branch(a, block(), block()), "if a {\n} else {\n}"},
		{branch(a, block(f), block(f, leave(1))), "if a {\n\tf()\n} else {\n\tf()\n\tcontinue\n}"},
		{branch(a, block(), branch(b, block())), "if a {\n} else if b {\n}"},
		{branch(a, block(f), branch(b, block(f), branch(c, block(f), block(f)))), "if a {\n\tf()\n} else if b {\n\tf()\n} else if c {\n\tf()\n} else {\n\tf()\n}"},
		{branch(a, block(), block(branch(b, block()))), "if a {\n} else {\n\tif b {\n\t}\n}"},
		{branch(a, block(branch(b, block(), block())), block(branch(b, block(), block()))), "if a {\n\tif b {\n\t} else {\n\t}\n} else {\n\tif b {\n\t} else {\n\t}\n}"},
		{branch(simple, block(f)), "if func() {\n\tf()\n} {\n\tf()\n}"},
		{loop(a, block()), "for a {\n}"},
		{loop(flag(1), block(f, loop(a, block(leave(0))))), "for true {\n\tf()\n\tfor a {\n\t\tbreak\n\t}\n}"},
		{loop(op("==", simple, a), block()), "for func() {\n\tf()\n} == a {\n}"},
		{choose(), "select {\n}"},
		{choose(defaultCase()), "select {\ndefault:\n}"},
		{choose(defaultCase(f, f)), "select {\ndefault:\n\tf()\n\tf()\n}"},
		{choose(receiveCase("x", c)), "select {\ncase x := <-c:\n}"},
		{choose(receiveCase("x", c, f)), "select {\ncase x := <-c:\n\tf()\n}"},
		{choose(receiveCase("", c, f)), "select {\ncase <-c:\n\tf()\n}"},
		{choose(sendCase(c, a, f)), "select {\ncase c <- a:\n\tf()\n}"},
		{choose(sendCase(receive(c), receive(a), f)), "select {\ncase <-c <- <-a:\n\tf()\n}"},
		{choose(sendCase(op("+", a, b), op("*", b, c))), "select {\ncase a + b <- b * c:\n}"},
		{choose(sendCase(op("-", receive(c), b), a)), "select {\ncase <-c - b <- a:\n}"},
		{choose(receiveCase("x", receive(op("-", c)))), "select {\ncase x := <-<--c:\n}"},
		{choose(receiveCase("", invoke(c, simple), f)), "select {\ncase <-c(func() {\n\tf()\n}):\n\tf()\n}"},
		{choose(receiveCase("x", simple, f)), "select {\ncase x := <-func() {\n\tf()\n}:\n\tf()\n}"},
		{choose(sendCase(simple, simple, f)), "select {\ncase func() {\n\tf()\n} <- func() {\n\tf()\n}:\n\tf()\n}"},
		{choose(sendCase(lit("P"), lit("P", a))), "select {\ncase P{} <- P{a}:\n}"},
		{choose(receiveCase("", a), defaultCase(f), sendCase(a, b, f, block()), receiveCase("x", a, ret())), "select {\ncase <-a:\ndefault:\n\tf()\ncase a <- b:\n\tf()\n\t{\n\t}\ncase x := <-a:\n\treturn\n}"},
		{choose(defaultCase(choose(defaultCase(choose(), f)), f)), "select {\ndefault:\n\tselect {\n\tdefault:\n\t\tselect {\n\t\t}\n\t\tf()\n\t}\n\tf()\n}"},
		{choose(defaultCase(block(), branch(a, block(f)))), "select {\ndefault:\n\t{\n\t}\n\tif a {\n\t\tf()\n\t}\n}"},
	}
}

// surrounding is a place for a statement: what stands ahead of it and behind it, and how many tabs its lines have.
type surrounding struct {
	c      call
	around func(n api.Node) api.Node
	ahead  string
	tabs   int
	behind string
}

func surroundings() []surrounding {
	a := name("a")
	body := func(list ...api.Node) api.Node { return program(fn("f", block(list...))) }
	inner := func(list ...api.Node) api.Node { return closure(params(), result(), block(list...)) }
	return []surrounding{
		{text, func(n api.Node) api.Node { return body(n) }, "func f() {\n\t", 1, "\n}\n"},
		{text, func(n api.Node) api.Node { return body(ret(), n, ret()) }, "func f() {\n\treturn\n\t", 1, "\n\treturn\n}\n"},
		{text, func(n api.Node) api.Node { return body(block(n)) }, "func f() {\n\t{\n\t\t", 2, "\n\t}\n}\n"},
		{text, func(n api.Node) api.Node { return body(block(block(n), ret())) }, "func f() {\n\t{\n\t\t{\n\t\t\t", 3, "\n\t\t}\n\t\treturn\n\t}\n}\n"},
		{text, func(n api.Node) api.Node { return body(branch(a, block(n))) }, "func f() {\n\tif a {\n\t\t", 2, "\n\t}\n}\n"},
		{text, func(n api.Node) api.Node { return body(branch(a, block(), block(n))) }, "func f() {\n\tif a {\n\t} else {\n\t\t", 2, "\n\t}\n}\n"},
		{text, func(n api.Node) api.Node { return body(branch(a, block(), branch(a, block(n), block()))) }, "func f() {\n\tif a {\n\t} else if a {\n\t\t", 2, "\n\t} else {\n\t}\n}\n"},
		{text, func(n api.Node) api.Node { return body(loop(a, block(n))) }, "func f() {\n\tfor a {\n\t\t", 2, "\n\t}\n}\n"},
		{text, func(n api.Node) api.Node { return body(choose(defaultCase(n), receiveCase("", a))) }, "func f() {\n\tselect {\n\tdefault:\n\t\t", 2, "\n\tcase <-a:\n\t}\n}\n"},
		{text, func(n api.Node) api.Node { return body(choose(receiveCase("x", a, n))) }, "func f() {\n\tselect {\n\tcase x := <-a:\n\t\t", 2, "\n\t}\n}\n"},
		{text, func(n api.Node) api.Node { return body(block(choose(sendCase(a, a, n)))) }, "func f() {\n\t{\n\t\tselect {\n\t\tcase a <- a:\n\t\t\t", 3, "\n\t\t}\n\t}\n}\n"},
		{text, func(n api.Node) api.Node { return body(choose(receiveCase("x", inner(n), ret()))) }, "func f() {\n\tselect {\n\tcase x := <-func() {\n\t\t", 2, "\n\t}:\n\t\treturn\n\t}\n}\n"},
		{text, func(n api.Node) api.Node { return body(ret(inner(n)), ret()) }, "func f() {\n\treturn func() {\n\t\t", 2, "\n\t}\n\treturn\n}\n"},
		{text, func(n api.Node) api.Node { return body(loop(a, block(define("x", op("-", inner(n)))))) }, "func f() {\n\tfor a {\n\t\tx := -func() {\n\t\t\t", 3, "\n\t\t}\n\t}\n}\n"},
		{text, func(n api.Node) api.Node { return body(eval(invoke(inner(n)))) }, "func f() {\n\t(func() {\n\t\t", 2, "\n\t})()\n}\n"},
		{text, func(n api.Node) api.Node { return body(start(1, invoke(inner(n), a))) }, "func f() {\n\tdefer (func() {\n\t\t", 2, "\n\t})(a)\n}\n"},
		{expr, func(n api.Node) api.Node { return inner(n) }, "func() {\n\t", 1, "\n}"},
		{expr, func(n api.Node) api.Node { return invoke(a, a, inner(n), a) }, "a(a, func() {\n\t", 1, "\n}, a)"},
		{expr, func(n api.Node) api.Node { return index(a, lit("P", op("+", a, inner(n)))) }, "a[P{a + func() {\n\t", 1, "\n}}]"},
		{expr, func(n api.Node) api.Node { return making(slice(typeName("X")), dot(receive(inner(n)), "x")) }, "make([]X, (<-func() {\n\t", 1, "\n}).x)"},
		{expr, func(n api.Node) api.Node { return inner(ret(op("*", a, inner(block(n))))) }, "func() {\n\treturn a * func() {\n\t\t{\n\t\t\t", 3, "\n\t\t}\n\t}\n}"},
	}
}

func declarationRows() []row {
	x, y := typeName("X"), typeName("Y")
	one, two, three := typeParam("T", 1), typeParam("U", 2), typeParam("V", 3)
	body := block(ret(name("a")))
	return []row{
		{structType("P"), "type P struct {\n}\n"},
		{structType("P", field("a", x)), "type P struct {\n\ta X\n}\n"},
		{structType("P", field("a", x), field("b", slice(y)), field("c", takes(x, y))), "type P struct {\n\ta X\n\tb []Y\n\tc func(X, Y)\n}\n"},
		{structType("P", times(16, field("a", x))...), "type P struct {\n" + strings.Repeat("\ta X\n", 16) + "}\n"},
		{fn("f", block()), "func f() {\n}\n"},
		{fn("f", body), "func f() {\n\treturn a\n}\n"},
		{function("f", typeParams(), params(field("a", x)), result(), block()), "func f(a X) {\n}\n"},
		{function("f", typeParams(), params(field("a", x), field("b", channel(y))), result(), body), "func f(a X, b chan Y) {\n\treturn a\n}\n"},
		{function("f", typeParams(), params(times(16, field("a", x))...), result(x), block()), "func f(" + many(16, "a X") + ") X {\n}\n"},
		{function("f", typeParams(), params(), result(x), block()), "func f() X {\n}\n"},
		{function("f", typeParams(), params(), result(takes(x)), block()), "func f() func(X) {\n}\n"},
		{function("f", typeParams(), params(field("a", takes())), result(gives(slice(y))), block()), "func f(a func()) func() []Y {\n}\n"},
		{function("f", typeParams(one), params(), result(), block()), "func f[T any]() {\n}\n"},
		{function("f", typeParams(two), params(), result(), block()), "func f[U comparable]() {\n}\n"},
		{function("f", typeParams(three), params(), result(), block()), "func f[V integer]() {\n}\n"},
		{function("f", typeParams(one, two, three), params(field("a", typeName("T"))), result(typeName("U")), body), "func f[T any, U comparable, V integer](a T) U {\n\treturn a\n}\n"},
		{function("f", typeParams(times(16, three)...), params(), result(), block()), "func f[" + many(16, "V integer") + "]() {\n}\n"},
	}
}
