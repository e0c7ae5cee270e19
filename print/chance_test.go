package print_test

import (
	"math/rand"
	"slices"
	"strconv"
	"strings"
	"testing"

	"mullion/api"
	"mullion/node"
	"mullion/parse"
	"mullion/tree"
)

// maker makes trees by chance, each together with its text, by the chapter's sentences.
type maker struct {
	r *rand.Rand
}

// How strong what is no operator of two holds together: a func literal can't be called as it is, and an operator of one or a receipt can't either.
const (
	tightOne  = 6
	tightFunc = 7
	tightAll  = 8
)

// piece is an expression with its text, and how strong it holds together.
type piece struct {
	row
	tight int
}

// in answers the text where at least that much is asked for.
func (p piece) in(least int) string { return round(p.tight < least, p.text) }

func (m maker) one(list ...string) string { return list[m.r.Intn(len(list))] }

// chance: once in n times.
func (m maker) chance(n int) bool { return m.r.Intn(n) == 0 }

func (m maker) name() string {
	return m.one("a", "b", "x", "f", "T", "any", "integer", "make", "\u00e9\u00e9", "len", "P")
}

// some answers how many parts a list has.
func (m maker) some(least int) int {
	if m.chance(30) {
		return 16
	}
	return least + m.r.Intn(3)
}

// rows answers so many parts, and their texts.
func rows(many int, part func() row) (list []api.Node, texts []string) {
	for range many {
		p := part()
		list, texts = append(list, p.n), append(texts, p.text)
	}
	return list, texts
}

func (m maker) program() row {
	list, texts := rows(m.r.Intn(4), func() row {
		s := m.name()
		if m.chance(3) {
			fields, lines := rows(m.some(0), m.field)
			return row{structType(s, fields...), "type " + s + " struct {\n" + indented(lines, 1) + "}\n"}
		}
		params, b := m.signature(3, 0), ""
		types, t := rows(m.some(0), func() row {
			con, s := m.r.Intn(3), m.name()
			return row{typeParam(s, uint64(con+1)), s + " " + []string{"any", "comparable", "integer"}[con]}
		})
		if len(types) > 0 {
			b = "[" + strings.Join(t, ", ") + "]"
		}
		return row{function(s, append([]api.Node{typeParams(types...)}, params.n.List...)...), "func " + s + b + params.text + "\n"}
	})
	return row{program(list...), strings.Join(texts, "")}
}

// indented: lines with so many tabs ahead.
func indented(lines []string, tabs int) string {
	s := ""
	for _, l := range lines {
		s += strings.Repeat("\t", tabs) + l + "\n"
	}
	return s
}

func (m maker) field() row {
	s, t := m.name(), m.typed(2)
	return row{field(s, t.n), s + " " + t.text}
}

// signature makes parameters, a result and a block, in a node of no Kind.
func (m maker) signature(d, tabs int) row {
	takes, texts := rows(m.some(0), m.field)
	gives, result := m.result(2)
	b := m.block(d, tabs)
	return row{bare(0, params(takes...), bare(node.Result, gives...), b.n), "(" + strings.Join(texts, ", ") + ")" + result + " " + b.text}
}

// result makes a type or nothing, with a blank ahead.
func (m maker) result(d int) ([]api.Node, string) {
	if m.chance(2) {
		return nil, ""
	}
	t := m.typed(d)
	return []api.Node{t.n}, " " + t.text
}

func (m maker) typed(d int) row {
	if d == 0 || m.chance(3) {
		s := m.name()
		return row{typeName(s), s}
	}
	if !m.chance(3) {
		return m.listType(d)
	}
	list, texts := rows(m.some(0), func() row { return m.typed(d - 1) })
	s := "func(" + strings.Join(texts, ", ") + ")"
	gives, result := m.result(d - 1)
	return row{is(node.FuncType, "", uint64(len(gives)), append(list, gives...)...), s + result}
}

func (m maker) listType(d int) row {
	t := m.typed(d - 1)
	if m.chance(2) {
		return row{slice(t.n), "[]" + t.text}
	}
	return row{channel(t.n), "chan " + t.text}
}

// lines makes statements with so many tabs ahead.
func (m maker) lines(d, tabs int) ([]api.Node, string) {
	if d <= 0 {
		return nil, ""
	}
	list, texts := rows(m.r.Intn(4), func() row { return m.statement(d-1, tabs) })
	return list, indented(texts, tabs)
}

func (m maker) block(d, tabs int) row {
	list, lines := m.lines(d, tabs+1)
	return row{block(list...), "{\n" + lines + strings.Repeat("\t", tabs) + "}"}
}

func (m maker) statement(d, tabs int) row {
	e, s := m.expr(d, tabs), m.name()
	switch m.r.Intn(12) {
	case 0:
		return m.block(d, tabs)
	case 1:
		t := m.typed(2)
		return row{variable(s, t.n), "var " + s + " " + t.text}
	case 2:
		return m.branch(d, tabs)
	case 3:
		h, b := m.head(d, tabs), m.block(d, tabs)
		return row{loop(h.n, b.n), "for " + h.text + " " + b.text}
	case 4:
		n := m.r.Intn(2)
		return row{leave(uint64(n)), []string{"break", "continue"}[n]}
	case 5:
		if m.chance(2) {
			return row{ret(), "return"}
		}
		return row{ret(e.n), "return " + e.text}
	case 6:
		n, c := m.r.Intn(2), m.call(d, tabs)
		return row{start(uint64(n), c.n), []string{"go ", "defer "}[n] + c.text}
	case 7, 8:
		return m.selection(d, tabs)
	case 9:
		return row{define(s, e.n), s + " := " + e.text}
	}
	return m.simple(d, tabs)
}

func (m maker) simple(d, tabs int) row {
	e := m.expr(d, tabs)
	switch m.r.Intn(4) {
	case 0:
		l := []func(int, int) piece{m.aName, m.dot, m.index}[m.r.Intn(3)](d, tabs)
		return row{assign(l.n, e.n), l.text + " = " + e.text}
	case 1:
		c := m.expr(d, tabs)
		return row{send(c.n, e.n), c.text + " <- " + e.text}
	case 2:
		return row{eval(receive(e.n)), "<-" + e.in(tightOne)}
	}
	c := m.call(d, tabs)
	return row{eval(c.n), c.text}
}

// head makes the head of an if or a for.
func (m maker) head(d, tabs int) row {
	e := m.expr(d, tabs)
	return row{e.n, round(slices.ContainsFunc(walk(e.n), func(n api.Node) bool { return n.Kind == node.Literal }), e.text)}
}

// walk answers all nodes of n.
func walk(n api.Node) []api.Node {
	all := []api.Node{n}
	for _, p := range n.List {
		all = append(all, walk(p)...)
	}
	return all
}

func (m maker) branch(d, tabs int) row {
	h, b := m.head(d, tabs), m.block(d, tabs)
	list, s := []api.Node{h.n, b.n}, "if "+h.text+" "+b.text
	if m.chance(2) {
		other := m.block(d, tabs)
		if m.chance(2) {
			other = m.branch(d, tabs)
		}
		list, s = append(list, other.n), s+" else "+other.text
	}
	return row{branch(list...), s}
}

func (m maker) selection(d, tabs int) row {
	list, texts := rows(m.r.Intn(3), func() row { return m.oneCase(d, tabs) })
	if m.chance(2) {
		i := m.r.Intn(len(list) + 1)
		b, lines := m.lines(d, tabs+1)
		list, texts = slices.Insert(list, i, defaultCase(b...)), slices.Insert(texts, i, "default:\n"+lines)
	}
	ahead := strings.Repeat("\t", tabs)
	s := "select {\n"
	for _, c := range texts {
		s += ahead + c
	}
	return row{choose(list...), s + ahead + "}"}
}

func (m maker) oneCase(d, tabs int) row {
	c, e, s := m.expr(d, tabs), m.expr(d, tabs), m.name()
	list, lines := m.lines(d, tabs+1)
	switch m.r.Intn(3) {
	case 0:
		return row{receiveCase(s, c.n, list...), "case " + s + " := <-" + c.in(tightOne) + ":\n" + lines}
	case 1:
		return row{receiveCase("", c.n, list...), "case <-" + c.in(tightOne) + ":\n" + lines}
	}
	return row{sendCase(c.n, e.n, list...), "case " + c.text + " <- " + e.text + ":\n" + lines}
}

func (m maker) expr(d, tabs int) piece {
	makers := []func(int, int) piece{m.aName, m.number, m.flag, m.two, m.two, m.signed, m.receipt, m.call, m.dot, m.index, m.literal, m.closure, m.making}
	if d <= 0 {
		makers = makers[:3]
	}
	return makers[m.r.Intn(len(makers))](d-1, tabs)
}

func (m maker) aName(d, tabs int) piece {
	s := m.name()
	return piece{row{name(s), s}, tightAll}
}

func (m maker) number(d, tabs int) piece {
	n := m.r.Uint64() >> m.r.Intn(64)
	return piece{row{num(n), strconv.FormatUint(n, 10)}, tightAll}
}

func (m maker) flag(d, tabs int) piece {
	n := m.r.Intn(2)
	return piece{row{flag(uint64(n)), []string{"false", "true"}[n]}, tightAll}
}

func (m maker) two(d, tabs int) piece {
	l, e, sign := m.expr(d, tabs), m.expr(d, tabs), m.one(opsOfTwo...)
	n := binds(sign)
	return piece{row{op(sign, l.n, e.n), l.in(n) + " " + sign + " " + e.in(n+1)}, n}
}

func (m maker) signed(d, tabs int) piece {
	e, sign := m.expr(d, tabs), m.one(opsOfOne...)
	return piece{row{op(sign, e.n), sign + e.in(tightOne)}, tightOne}
}

func (m maker) receipt(d, tabs int) piece {
	e := m.expr(d, tabs)
	return piece{row{receive(e.n), "<-" + e.in(tightOne)}, tightOne}
}

// inner makes a list of expressions.
func (m maker) inner(d, tabs, least int) ([]api.Node, string) {
	list, texts := rows(m.some(least), func() row { return m.expr(d, tabs).row })
	return list, strings.Join(texts, ", ")
}

func (m maker) call(d, tabs int) piece {
	e := m.expr(d, tabs)
	list, s := m.inner(d, tabs, 0)
	return piece{row{invoke(append([]api.Node{e.n}, list...)...), e.in(tightAll) + "(" + s + ")"}, tightAll}
}

func (m maker) dot(d, tabs int) piece {
	e, s := m.expr(d, tabs), m.name()
	return piece{row{dot(e.n, s), e.in(tightAll) + "." + s}, tightAll}
}

func (m maker) index(d, tabs int) piece {
	e := m.expr(d, tabs)
	list, texts := rows(m.some(1), func() row {
		if m.chance(3) {
			return m.listType(2)
		}
		return m.expr(d, tabs).row
	})
	return piece{row{index(append([]api.Node{e.n}, list...)...), e.in(tightAll) + "[" + strings.Join(texts, ", ") + "]"}, tightAll}
}

func (m maker) literal(d, tabs int) piece {
	list, s := m.inner(d, tabs, 0)
	p := m.name()
	return piece{row{lit(p, list...), p + "{" + s + "}"}, tightAll}
}

func (m maker) closure(d, tabs int) piece {
	s := m.signature(d, tabs)
	return piece{row{closure(s.n.List...), "func" + s.text}, tightFunc}
}

func (m maker) making(d, tabs int) piece {
	t, e := m.typed(2), m.expr(d, tabs)
	return piece{row{making(t.n, e.n), "make(" + t.text + ", " + e.text + ")"}, tightAll}
}

// callsMake tells whether the name make is called anywhere in n.
func callsMake(n api.Node) bool {
	return slices.ContainsFunc(walk(n), func(p api.Node) bool {
		return p.Kind == node.Call && p.List[0].Kind == node.Name && p.List[0].Text == "make"
	})
}

// wantThereAndBack asks for this text, and that the tree is read from it again, if the name make is called nowhere.
func wantThereAndBack(t *testing.T, c call, r row) {
	t.Helper()
	s, e := c.write(r.n)
	if len(r.text) > api.MaxText {
		wantFault(t, c, r.n, api.ErrLarge)
		return
	}
	if s != r.text || e != api.OK {
		t.Fatalf("%s = %d,\n%s\nnot\n%s", c.name, e, s, r.text)
	}
	if n, at, e := c.read(s); !callsMake(r.n) && (e != api.OK || !tree.Same(n, r.n)) {
		t.Fatalf("%s is read as another tree: %d, %d\n%s", c.name, at, e, s)
	}
}

// TestByChance: trees of all kinds are written as the chapter tells, and are read again.
func TestByChance(t *testing.T) {
	m := maker{rand.New(rand.NewSource(6))}
	for range 3000 {
		wantThereAndBack(t, typed, m.typed(5))
		wantThereAndBack(t, expr, m.expr(3, 0).row)
		wantThereAndBack(t, text, m.program())
	}
}

// TestCallOfMake: the text of a call of the name make is that of a make, which is read as such or not at all.
func TestCallOfMake(t *testing.T) {
	a, b := name("a"), name("b")
	wantText(t, expr, invoke(name("make"), a, b), "make(a, b)")
	if n, _, e := parse.Expr("make(a, b)"); e != api.OK || !tree.Same(n, making(typeName("a"), b)) {
		t.Errorf("make(a, b) is read as a node %d, %d", n.Kind, e)
	}
	for _, r := range []row{
		{name("make"), "make"}, {dot(name("make"), "make"), "make.make"}, {index(name("make"), name("make")), "make[make]"}, {invoke(index(name("make"), a), b), "make[a](b)"},
		{lit("make", name("make")), "make{make}"}, {invoke(dot(a, "make"), b), "a.make(b)"}, {invoke(a, name("make")), "a(make)"}, {invoke(op("-", name("make")), a), "(-make)(a)"},
	} {
		wantThereAndBack(t, expr, r)
	}
}

// TestRowsAreRead: what is written of each kind of node is read again.
func TestRowsAreRead(t *testing.T) {
	for _, r := range expressionRows() {
		wantThereAndBack(t, expr, r)
		for _, h := range held(r.n, r.text) {
			if s, _ := expr.write(h.n); !callsMake(h.n) {
				wantThereAndBack(t, expr, row{h.n, s})
			}
		}
	}
	for _, r := range typeRows() {
		wantThereAndBack(t, typed, r)
	}
	for _, r := range declarationRows() {
		wantThereAndBack(t, text, row{program(r.n, r.n), r.text + r.text})
	}
	for _, r := range statementRows() {
		wantThereAndBack(t, text, row{program(fn("f", block(r.n, r.n))), "func f() {\n\t" + deeper(r.text+"\n"+r.text, 1) + "\n}\n"})
	}
	for _, r := range withLiterals() {
		wantThereAndBack(t, expr, row{closure(params(), result(), block(loop(r.n, block()))), "func() {\n\tfor (" + deeper(r.text, 1) + ") {\n\t}\n}"})
	}
}
