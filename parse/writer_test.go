package parse_test

import (
	"math/rand"
	"slices"
	"strconv"
	"strings"

	"mullion/api"
	"mullion/node"
	"mullion/scan"
)

// writer writes texts by chance, each together with the tree that it is: a part is written token by token and answered as a node.
type writer struct {
	r      *rand.Rand
	text   string
	last   string // the last token
	places []int  // of the tokens
	head   bool   // in a head, with no bracket open there
}

var (
	someNames = []string{"a", "b", "x", "f", "int64", "T", "any", "comparable", "integer", "make", "\u00e9", "len"}
	strengths = [][]string{{"||"}, {"&&"}, {"==", "!=", "<", "<=", ">", ">="}, {"+", "-", "|", "^"}, {"*", "/", "%", "<<", ">>", "&", "&^"}}
	lineEnds  = []string{"\n", " \n", "// x ; }\n", "\n\n\t", " //\n\n // y\n"}
)

func newWriter(r *rand.Rand) *writer { return &writer{r: r} }

func (w *writer) one(list []string) string { return list[w.r.Intn(len(list))] }

// chance: once in n times.
func (w *writer) chance(n int) bool { return w.r.Intn(n) == 0 }

// endsLine: at a line's end a semicolon would be put.
func (w *writer) endsLine() bool {
	l, _, _ := scan.Tokens(w.last)
	return len(l) == 2
}

// put writes a token, and what may stand ahead of it, and answers its place.
func (w *writer) put(token string) int {
	blanks := []string{"", " ", " ", "\t", "\r "}
	if !w.endsLine() {
		blanks = append(blanks, lineEnds...)
	}
	blank := w.one(blanks)
	if l, _, _ := scan.Tokens(w.last + token); blank == "" && (len(l) < 2 || l[0].Text != w.last || l[1].Text != token) {
		blank = " "
	}
	if strings.HasPrefix(blank, "/") {
		blank = " " + blank
	}
	w.text += blank
	at := len(w.text)
	w.text += token
	w.last = token
	w.places = append(w.places, at)
	return at
}

// name writes a name, and answers it and its place.
func (w *writer) name() (string, int) {
	s := w.one(someNames)
	return s, w.put(s)
}

// semicolon writes one, or a line's end for it.
func (w *writer) semicolon() {
	if w.endsLine() && w.chance(2) {
		w.text += w.one(lineEnds)
		w.last = ""
		return
	}
	w.put(";")
}

// closing writes the sign that closes a list, and perhaps a semicolon ahead of it.
func (w *writer) closing(sign string) {
	if w.chance(4) {
		w.semicolon()
	}
	w.put(sign)
}

// list writes at least so many parts, with commas between.
func (w *writer) list(least int, sign string, part func() api.Node) []api.Node {
	many := least + w.r.Intn(3)
	if w.chance(20) {
		many = 16
	}
	var list []api.Node
	for i := range many {
		if i > 0 {
			w.put(",")
		}
		list = append(list, part())
	}
	if many == 0 {
		w.put(sign)
	} else {
		w.closing(sign)
	}
	return list
}

// lines writes parts with semicolons behind; the last may be missing if the list is closed behind it.
func (w *writer) lines(most int, isClosed bool, part func() api.Node) []api.Node {
	var list []api.Node
	many := w.r.Intn(most + 1)
	for i := range many {
		list = append(list, part())
		if !isClosed || i < many-1 || w.chance(2) {
			w.semicolon()
		}
	}
	return list
}

// within writes a part in a head, or out of any.
func (w *writer) within(head bool, part func() api.Node) api.Node {
	outside := w.head
	w.head = head
	n := part()
	w.head = outside
	return n
}

func made(kind int, text string, n uint64, at int, list ...api.Node) api.Node {
	return api.Node{Kind: kind, Text: text, N: n, At: at, List: list}
}

func (w *writer) program() api.Node {
	return made(node.Program, "", 0, 0, w.lines(4, false, func() api.Node {
		if w.chance(3) {
			return w.structType()
		}
		return w.function()
	})...)
}

func (w *writer) structType() api.Node {
	at := w.put("type")
	name, _ := w.name()
	w.put("struct")
	w.put("{")
	fields := w.lines(3, true, w.field)
	w.put("}")
	return made(node.Struct, name, 0, at, fields...)
}

func (w *writer) field() api.Node {
	name, at := w.name()
	return made(node.Field, name, 0, at, w.typed(2))
}

func (w *writer) function() api.Node {
	at := w.put("func")
	name, _ := w.name()
	types := made(node.TypeParams, "", 0, -1)
	if w.chance(2) {
		types.At = w.put("[")
		types.List = w.list(1, "]", func() api.Node {
			name, at := w.name()
			con := w.r.Intn(3)
			w.put([]string{"any", "comparable", "integer"}[con])
			return made(node.TypeParam, name, uint64(con+1), at)
		})
	}
	list := append([]api.Node{types}, w.signature(3)...)
	if types.At < 0 {
		list[0].At = list[1].At
	}
	return made(node.Func, name, 0, at, list...)
}

func (w *writer) signature(d int) []api.Node {
	at := w.put("(")
	params := made(node.Params, "", 0, at, w.list(0, ")", w.field)...)
	result := made(node.Result, "", 0, 0)
	if w.chance(2) {
		result.List = []api.Node{w.typed(2)}
		result.At = result.List[0].At
	}
	block := w.block(d)
	if result.List == nil {
		result.At = block.At
	}
	return []api.Node{params, result, block}
}

func (w *writer) typed(d int) api.Node {
	if d == 0 || w.chance(3) {
		name, at := w.name()
		return made(node.TypeName, name, 0, at)
	}
	if w.chance(3) {
		return w.funcType(d)
	}
	return w.listType(d)
}

func (w *writer) listType(d int) api.Node {
	if w.chance(2) {
		at := w.put("chan")
		return made(node.ChanType, "", 0, at, w.typed(d-1))
	}
	at := w.put("[")
	w.put("]")
	return made(node.SliceType, "", 0, at, w.typed(d-1))
}

func (w *writer) funcType(d int) api.Node {
	at := w.put("func")
	w.put("(")
	list := w.list(0, ")", func() api.Node { return w.typed(d - 1) })
	if w.chance(2) {
		return made(node.FuncType, "", 1, at, append(list, w.typed(d-1))...)
	}
	return made(node.FuncType, "", 0, at, list...)
}

func (w *writer) block(d int) api.Node {
	at := w.put("{")
	n := w.within(false, func() api.Node {
		return made(node.Block, "", 0, at, w.lines(min(d, 3), true, func() api.Node { return w.statement(d - 1) })...)
	})
	w.put("}")
	return n
}

func (w *writer) statement(d int) api.Node {
	switch w.r.Intn(14) {
	case 0:
		return w.block(d)
	case 1:
		at := w.put("var")
		name, _ := w.name()
		return made(node.Var, name, 0, at, w.typed(2))
	case 2:
		return w.branch(d)
	case 3:
		at := w.put("for")
		head := w.within(true, func() api.Node { return w.expr(1, d) })
		return made(node.For, "", 0, at, head, w.block(d))
	case 4:
		n := w.r.Intn(2)
		return made(node.Leave, "", uint64(n), w.put([]string{"break", "continue"}[n]))
	case 5:
		at := w.put("return")
		if w.chance(2) {
			return made(node.Return, "", 0, at)
		}
		return made(node.Return, "", 0, at, w.expr(1, d))
	case 6:
		n := w.r.Intn(2)
		at := w.put([]string{"go", "defer"}[n])
		return made(node.Start, "", uint64(n), at, w.wrapped(func() api.Node { return w.primary(d, "(") }))
	case 7, 8:
		return w.selection(d)
	}
	return w.simple(d)
}

func (w *writer) branch(d int) api.Node {
	at := w.put("if")
	head := w.within(true, func() api.Node { return w.expr(1, d) })
	list := []api.Node{head, w.block(d)}
	if w.chance(2) {
		w.put("else")
		if w.chance(2) {
			list = append(list, w.branch(max(d-1, 0)))
		} else {
			list = append(list, w.block(d))
		}
	}
	return made(node.If, "", 0, at, list...)
}

func (w *writer) simple(d int) api.Node {
	first := len(w.places)
	switch w.r.Intn(5) {
	case 0:
		name, at := w.name()
		w.put(":=")
		return made(node.Define, name, 0, at, w.expr(1, d))
	case 1:
		left := w.wrapped(func() api.Node { return w.place(d) })
		w.put("=")
		return made(node.Assign, "", 0, w.places[first], left, w.expr(1, d))
	case 2:
		left := w.expr(1, d)
		at := w.put("<-")
		return made(node.Send, "", 0, at, left, w.expr(1, d))
	case 3:
		n := w.wrapped(func() api.Node { return w.receipt(d) })
		return made(node.Eval, "", 0, w.places[first], n)
	}
	n := w.wrapped(func() api.Node { return w.primary(d, "(") })
	return made(node.Eval, "", 0, w.places[first], n)
}

// place writes what may stand left of an =.
func (w *writer) place(d int) api.Node {
	if w.chance(3) {
		name, at := w.name()
		return made(node.Name, name, 0, at)
	}
	return w.primary(d, w.one([]string{".", "["}))
}

func (w *writer) receipt(d int) api.Node {
	at := w.put("<-")
	return made(node.Receive, "", 0, at, w.unary(d))
}

func (w *writer) selection(d int) api.Node {
	at := w.put("select")
	w.put("{")
	var list []api.Node
	many, def := w.r.Intn(3), -1
	if w.chance(2) {
		many++
		def = w.r.Intn(many)
	}
	for i := range many {
		list = append(list, w.oneCase(d, i == def, i == many-1))
	}
	w.put("}")
	return made(node.Select, "", 0, at, list...)
}

func (w *writer) oneCase(d int, isDefault, isLast bool) api.Node {
	if isDefault {
		at := w.put("default")
		return made(node.DefaultCase, "", 0, at, w.caseBlock(d, isLast))
	}
	at := w.put("case")
	switch w.r.Intn(4) {
	case 0:
		name, _ := w.name()
		w.put(":=")
		w.put("<-")
		from := w.unary(d)
		return made(node.ReceiveCase, name, 0, at, from, w.caseBlock(d, isLast))
	case 1:
		w.put("<-")
		from := w.unary(d)
		return made(node.ReceiveCase, "", 0, at, from, w.caseBlock(d, isLast))
	case 2:
		from := w.wrapped(func() api.Node { return w.receipt(d) }).List[0]
		return made(node.ReceiveCase, "", 0, at, from, w.caseBlock(d, isLast))
	}
	to := w.expr(1, d)
	w.put("<-")
	value := w.expr(1, d)
	return made(node.SendCase, "", 0, at, to, value, w.caseBlock(d, isLast))
}

func (w *writer) caseBlock(d int, isLast bool) api.Node {
	at := w.put(":")
	return made(node.Block, "", 0, at, w.lines(max(min(d, 2), 0), isLast, func() api.Node { return w.statement(d - 1) })...)
}

// wrapped writes a part, perhaps in parentheses.
func (w *writer) wrapped(part func() api.Node) api.Node {
	if w.chance(4) {
		return w.parenthesis(func() api.Node { return w.wrapped(part) })
	}
	return part()
}

func (w *writer) parenthesis(part func() api.Node) api.Node {
	w.put("(")
	n := w.within(false, part)
	w.closing(")")
	return n
}

// expr writes an expression whose operators, out of parentheses, bind at least that strong.
func (w *writer) expr(least, d int) api.Node {
	if d <= 0 || least > 5 || w.chance(2) {
		return w.unary(d)
	}
	strength := least + w.r.Intn(6-least)
	left := w.expr(strength, d-1)
	op := w.one(strengths[strength-1])
	at := w.put(op)
	return made(node.Operator, op, 0, at, left, w.expr(strength+1, d-1))
}

func (w *writer) unary(d int) api.Node {
	if d <= 0 || !w.chance(4) {
		return w.primary(d, "")
	}
	if w.chance(4) {
		return w.receipt(d - 1)
	}
	op := w.one([]string{"-", "^", "!"})
	at := w.put(op)
	return made(node.Operator, op, 0, at, w.unary(d-1))
}

// primary writes an operand and what stands behind it, the last of this sort, if one is asked for.
func (w *writer) primary(d int, last string) api.Node {
	var signs []string
	for d > 0 && w.chance(3) {
		signs = append(signs, w.one([]string{"(", ".", "["}))
	}
	if last != "" {
		signs = append(signs, last)
	}
	n := w.operand(d, slices.Index(signs, "(") == 0)
	for _, sign := range signs {
		n = w.behind(n, sign, d)
	}
	return n
}

func (w *writer) behind(n api.Node, sign string, d int) api.Node {
	at := w.put(sign)
	inner := func() api.Node { return w.within(false, func() api.Node { return w.expr(1, d-1) }) }
	switch sign {
	case ".":
		name, _ := w.name()
		return made(node.Dot, name, 0, at, n)
	case "(":
		return made(node.Call, "", 0, at, append([]api.Node{n}, w.list(0, ")", inner)...)...)
	}
	return made(node.Index, "", 0, at, append([]api.Node{n}, w.list(1, "]", func() api.Node {
		if w.chance(3) {
			return w.listType(2)
		}
		return inner()
	})...)...)
}

func (w *writer) operand(d int, isCalled bool) api.Node {
	inner := func() api.Node { return w.within(false, func() api.Node { return w.expr(1, d-1) }) }
	kind := w.r.Intn(12)
	switch {
	case d > 0 && kind == 0:
		return w.parenthesis(func() api.Node { return w.expr(1, d-1) })
	case d > 0 && kind == 1:
		at := w.put("func")
		return made(node.FuncLiteral, "", 0, at, w.signature(d-1)...)
	case d > 0 && kind == 2 && w.head:
		return w.parenthesis(func() api.Node { return w.literal(inner) })
	case d > 0 && kind == 2:
		return w.literal(inner)
	case d > 0 && kind == 3:
		return w.making(inner)
	case kind == 4:
		n := w.r.Intn(2)
		return made(node.Flag, "", uint64(n), w.put([]string{"false", "true"}[n]))
	case kind < 7:
		n := w.r.Uint64() >> w.r.Intn(64)
		return made(node.Number, "", n, w.put(w.one([]string{strconv.FormatUint(n, 10), "0x" + strconv.FormatUint(n, 16)})))
	}
	if name := w.one(someNames); name != "make" || !isCalled {
		return made(node.Name, name, 0, w.put(name))
	}
	return w.parenthesis(func() api.Node { return made(node.Name, "make", 0, w.put("make")) })
}

func (w *writer) literal(inner func() api.Node) api.Node {
	name, at := w.name()
	w.put("{")
	return made(node.Literal, name, 0, at, w.list(0, "}", inner)...)
}

func (w *writer) making(inner func() api.Node) api.Node {
	at := w.put("make")
	w.put("(")
	what := w.typed(2)
	w.put(",")
	size := inner()
	w.closing(")")
	return made(node.Make, "", 0, at, what, size)
}
