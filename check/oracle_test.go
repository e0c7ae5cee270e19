package check_test

import (
	"fmt"
	"go/ast"
	"go/parser"
	"go/token"
	gotypes "go/types"
	"math/big"
	"slices"
	"strings"

	"mullion/api"
	"mullion/node"
)

// The oracle tells by Go's own checker whether a program has a fault: the language is a part of Go, but for what is written out here. It knows nothing of the limits of types, nothing of the names _ and init, nor of variables that are named make, and to Go a type parameter hides a function.

// goHead stands ahead of each program: the functions that are built in, as the document has them. To Go, what comes of a call is no constant.
const goHead = `package main

type int64 = int
type integer interface{ int8 | uint8 | int32 | uint32 | int | uint64 }
type printed interface{ bool | int8 | uint8 | int32 | uint32 | int | uint64 }

func whole_[N integer](n N) N { return n }
func number_(n int) int       { return n }
func print[N printed](n N)    {}
func len[N any](s []N) int    { return 0 }
func recover() int            { return 0 }
`

var (
	givenNames  = strings.Fields("bool int8 uint8 int32 uint32 int64 uint64 len make print panic recover close int any comparable integer")
	numberNames = strings.Fields("int8 uint8 int32 uint32 int64 uint64 int")
)

// goFine tells whether Go has nothing against the text; variables and labels that are not used are nothing to tell.
func goFine(text string) bool {
	set := token.NewFileSet()
	file, err := parser.ParseFile(set, "", text, parser.SkipObjectResolution)
	if err != nil {
		panic(fmt.Sprint(err, "\n", text))
	}
	fine := true
	config := gotypes.Config{Error: func(err error) {
		isUnused := strings.Contains(err.Error(), "declared and not used")
		fine = fine && (isUnused || strings.Contains(err.Error(), "instantiation cycle"))
	}}
	_, _ = config.Check("main", set, []*ast.File{file}, nil)
	return fine
}

// oracle tells whether a sound program has no fault, and what it is in Go.
func oracle(n api.Node) (bool, string) {
	g := &goText{params: map[string]int{}, fields: map[string]int{}, bound: nil}
	text := goHead + g.program(n)
	return !g.isFaulty && goFine(text), text
}

// goText writes a program as Go.
type goText struct {
	isFaulty bool             // the document has something against it that Go has not
	params   map[string]int   // functions: how many type parameters
	fields   map[string]int   // struct types: how many fields
	own      []string         // type parameters
	bound    []map[string]int // variables by scopes
	loops    []int            // numbers of the loops about
	last     int              // number of a loop
}

// ask makes the program faulty, if it is not so.
func (g *goText) ask(isSo bool) { g.isFaulty = g.isFaulty || !isSo }

func (g *goText) open() { g.bound = append(g.bound, map[string]int{}) }

func (g *goText) close() { g.bound = g.bound[:len(g.bound)-1] }

func (g *goText) bind(name string) { g.bound[len(g.bound)-1][name]++ }

func (g *goText) isBound(name string) bool {
	return slices.ContainsFunc(g.bound, func(s map[string]int) bool { return s[name] > 0 })
}

func (g *goText) program(n api.Node) string {
	for _, d := range n.List {
		g.ask(!slices.Contains(givenNames, d.Text))
		if d.Kind == node.Func {
			g.params[d.Text] = len(d.List[0].List)
		} else {
			g.fields[d.Text] = len(d.List)
		}
	}
	text, ahead := "", []string{}
	isMain := false
	for _, d := range n.List {
		if d.Kind == node.Struct {
			for _, f := range walk(d) {
				_, isStruct := g.fields[f.Text]
				g.ask(f.Kind != node.TypeName || !isStruct || slices.Contains(ahead, f.Text))
			}
			text += "type " + d.Text + " struct {" + g.named(d.List, "; ") + "}\n"
			ahead = append(ahead, d.Text)
			continue
		}
		isMain = isMain || d.Text == "main"
		text += g.function(d)
	}
	g.ask(isMain)
	return text
}

func (g *goText) function(d api.Node) string {
	g.own = nil
	var list []string
	for _, p := range d.List[0].List {
		_, isStruct := g.fields[p.Text]
		g.ask(!isStruct && !slices.Contains(givenNames, p.Text))
		g.own = append(g.own, p.Text)
		list = append(list, p.Text+" "+[]string{"", "any", "comparable", "integer"}[p.N])
	}
	text := "func " + d.Text
	if len(list) > 0 {
		text += "[" + strings.Join(list, ", ") + "]"
	}
	return text + g.signature(d.List[1:]) + "\n"
}

// signature: parameters, a result, and the block, which is a scope of its own within the function's.
func (g *goText) signature(list []api.Node) string {
	loops := g.loops
	g.loops = nil
	text := "(" + g.named(list[0].List, ", ") + ")"
	for _, r := range list[1].List {
		text += " " + g.typed(r)
	}
	g.open()
	for _, p := range list[0].List {
		g.bind(p.Text)
	}
	text += " { " + g.block(list[2]) + " }"
	g.close()
	g.loops = loops
	return text
}

func (g *goText) named(list []api.Node, sign string) string {
	var all []string
	for _, p := range list {
		all = append(all, p.Text+" "+g.typed(p.List[0]))
	}
	return strings.Join(all, sign)
}

func (g *goText) typed(n api.Node) string {
	switch n.Kind {
	case node.TypeName:
		g.ask(!slices.Contains([]string{"any", "comparable", "integer", "printed"}, n.Text))
		return n.Text
	case node.SliceType:
		return "[]" + g.typed(n.List[0])
	case node.ChanType:
		return "chan " + g.typed(n.List[0])
	}
	var all []string
	for _, p := range n.List {
		all = append(all, g.typed(p))
	}
	many := len(all) - int(n.N)
	return "func(" + strings.Join(all[:many], ", ") + ") " + strings.Join(all[many:], "")
}

func (g *goText) block(n api.Node) string {
	g.open()
	text := "{ " + g.statements(n) + "}"
	g.close()
	return text
}

func (g *goText) statements(n api.Node) string {
	text := ""
	for _, s := range n.List {
		text += g.statement(s) + "; "
	}
	return text
}

func (g *goText) statement(n api.Node) string {
	switch n.Kind {
	case node.Block:
		return g.block(n)
	case node.Define:
		text := n.Text + " := " + g.expr(n.List[0])
		g.bind(n.Text)
		return text
	case node.Var:
		text := "var " + n.Text + " " + g.typed(n.List[0])
		g.bind(n.Text)
		return text
	case node.Assign:
		return g.expr(n.List[0]) + " = " + g.expr(n.List[1])
	case node.Eval:
		return g.expr(n.List[0])
	case node.If:
		text := "if (" + g.expr(n.List[0]) + ") " + g.block(n.List[1])
		for _, other := range n.List[2:] {
			text += " else " + g.statement(other)
		}
		return text
	case node.For:
		return g.loop(n)
	case node.Leave:
		g.ask(len(g.loops) > 0)
		if len(g.loops) == 0 {
			return ""
		}
		return []string{"break", "continue"}[n.N] + fmt.Sprint(" L", g.loops[len(g.loops)-1])
	case node.Return:
		if len(n.List) > 0 {
			return "return " + g.expr(n.List[0])
		}
		return "return"
	case node.Start:
		callee := n.List[0].List[0]
		g.ask(callee.Kind != node.Name || g.isBound(callee.Text) || !slices.Contains(givenNames, callee.Text) && !slices.Contains(g.own, callee.Text))
		return []string{"go ", "defer "}[n.N] + g.expr(n.List[0])
	case node.Send:
		return "(" + g.expr(n.List[0]) + ") <- " + g.expr(n.List[1])
	}
	return g.selection(n)
}

// loop: each has a label, as break belongs to it in a select too.
func (g *goText) loop(n api.Node) string {
	head := " (" + g.expr(n.List[0]) + ") "
	if n.List[0].Kind == node.Flag && n.List[0].N == 1 {
		head = " "
	}
	g.last++
	number := g.last
	g.loops = append(g.loops, number)
	text := fmt.Sprint("L", number, ": for", head) + g.block(n.List[1])
	g.loops = g.loops[:len(g.loops)-1]
	return text
}

// selection: to Go, a select without cases never ends.
func (g *goText) selection(n api.Node) string {
	text := "select { "
	for _, one := range n.List {
		g.open()
		switch {
		case one.Kind == node.ReceiveCase && one.Text != "":
			text += "case " + one.Text + " := <-(" + g.expr(one.List[0]) + ")"
			g.bind(one.Text)
		case one.Kind == node.ReceiveCase:
			text += "case <-(" + g.expr(one.List[0]) + ")"
		case one.Kind == node.SendCase:
			text += "case (" + g.expr(one.List[0]) + ") <- " + g.expr(one.List[1])
		default:
			text += "default"
		}
		text += ": " + g.statements(one.List[len(one.List)-1])
		g.close()
	}
	if len(n.List) == 0 {
		text += "default: "
	}
	return text + "}"
}

// expr: a constant is worked out, all else is left to Go.
func (g *goText) expr(n api.Node) string {
	if c := g.constant(n); c != nil {
		return "(" + c.String() + ")"
	}
	switch n.Kind {
	case node.Name:
		g.ask(g.isBound(n.Text) || !slices.Contains(givenNames, n.Text) && g.params[n.Text] == 0)
		return n.Text
	case node.Flag:
		return []string{"false", "true"}[n.N]
	case node.Operator:
		return g.operator(n)
	case node.Call:
		return g.call(n)
	case node.Dot:
		return "(" + g.expr(n.List[0]) + ")." + n.Text
	case node.Index:
		return g.item(n)
	case node.Literal:
		many, isStruct := g.fields[n.Text]
		g.ask(!isStruct || len(n.List) == many)
		return n.Text + "{" + g.list(n.List) + "}"
	case node.FuncLiteral:
		return "func" + g.signature(n.List)
	case node.Receive:
		return "<-(" + g.expr(n.List[0]) + ")"
	}
	return "make(" + g.typed(n.List[0]) + ", whole_(" + g.expr(n.List[1]) + "))"
}

func (g *goText) list(list []api.Node) string {
	var all []string
	for _, n := range list {
		all = append(all, g.expr(n))
	}
	return strings.Join(all, ", ")
}

func (g *goText) item(n api.Node) string {
	index := n.List[1]
	if len(n.List) > 2 || index.Kind == node.SliceType || index.Kind == node.ChanType {
		g.ask(false)
		return "0"
	}
	return "(" + g.expr(n.List[0]) + ")[whole_(" + g.expr(index) + ")]"
}

var (
	least = big.NewInt(-1 << 63)
	most  = new(big.Int).SetUint64(1<<64 - 1)
)

// constant answers the number that a constant is; nil: n is none, or none that may be.
func (g *goText) constant(n api.Node) *big.Int {
	if n.Kind == node.Number {
		return new(big.Int).SetUint64(n.N)
	}
	if n.Kind != node.Operator || n.Text == "!" || slices.Contains(strings.Fields("&& || == != < <= > >="), n.Text) {
		return nil
	}
	a := g.constant(n.List[0])
	if a == nil {
		return nil
	}
	out := new(big.Int)
	if len(n.List) == 1 {
		out = map[string]*big.Int{"-": new(big.Int).Neg(a), "^": new(big.Int).Not(a)}[n.Text]
	} else if b := g.constant(n.List[1]); b == nil {
		return nil
	} else if out = folded(n.Text, a, b); out == nil {
		out = big.NewInt(1)
		g.ask(false)
	}
	g.ask(out.Cmp(least) >= 0 && out.Cmp(most) <= 0)
	return out
}

// folded answers a op b; nil: it may not be.
func folded(op string, a, b *big.Int) *big.Int {
	z := new(big.Int)
	isAbove := a.Sign() >= 0 && b.Sign() >= 0
	isCount := b.Sign() >= 0 && b.Cmp(big.NewInt(100)) < 0
	switch {
	case op == "+":
		return z.Add(a, b)
	case op == "-":
		return z.Sub(a, b)
	case op == "*":
		return z.Mul(a, b)
	case op == "/" && b.Sign() != 0:
		return z.Quo(a, b)
	case op == "%" && b.Sign() != 0:
		return z.Rem(a, b)
	case op == "<<" && (isCount || b.Sign() > 0 && a.Sign() == 0):
		return z.Lsh(a, uint(b.Uint64()%100))
	case op == ">>" && isCount:
		return z.Rsh(a, uint(b.Uint64()))
	case op == ">>" && b.Sign() > 0:
		return z.Rsh(a, 100)
	case op == "&" && isAbove:
		return z.And(a, b)
	case op == "|" && isAbove:
		return z.Or(a, b)
	case op == "^" && isAbove:
		return z.Xor(a, b)
	case op == "&^" && isAbove:
		return z.AndNot(a, b)
	}
	return nil
}

func (g *goText) operator(n api.Node) string {
	x := g.expr(n.List[0])
	if len(n.List) == 1 {
		return "(" + n.Text + "(" + x + "))"
	}
	y := g.expr(n.List[1])
	a, b := g.constant(n.List[0]), g.constant(n.List[1])
	isShift := n.Text == "<<" || n.Text == ">>"
	switch {
	case a != nil && (b != nil || isShift):
		// What stands here has to fit int64.
		x = "number_" + x
	case b != nil && isShift:
		g.ask(b.IsInt64())
		y = "1"
	case b != nil && b.Sign() == 0 && (n.Text == "/" || n.Text == "%"):
		y = "1"
	}
	if a != nil && b != nil {
		y = "number_" + y
	}
	return "((" + x + ") " + n.Text + " (" + y + "))"
}

func (g *goText) call(n api.Node) string {
	callee, args := n.List[0], n.List[1:]
	if callee.Kind == node.Index && callee.List[0].Kind == node.Name && !g.isBound(callee.List[0].Text) && g.params[callee.List[0].Text] > 0 {
		return g.instance(callee) + "(" + g.list(args) + ")"
	}
	if callee.Kind != node.Name || g.isBound(callee.Text) {
		return "(" + g.expr(callee) + ")(" + g.list(args) + ")"
	}
	_, isStruct := g.fields[callee.Text]
	g.ask(!isStruct && !slices.Contains([]string{"make", "any", "comparable", "integer"}, callee.Text))
	switch {
	case slices.Contains(numberNames, callee.Text), slices.Contains(g.own, callee.Text):
		return "whole_(" + callee.Text + "(" + g.list(args) + "))"
	case callee.Text == "panic":
		return "panic(number_(" + g.list(args) + "))"
	}
	return callee.Text + "(" + g.list(args) + ")"
}

// instance: a function with its type arguments, all of them.
func (g *goText) instance(n api.Node) string {
	g.ask(len(n.List)-1 == g.params[n.List[0].Text])
	var all []string
	for _, a := range n.List[1:] {
		switch a.Kind {
		case node.Name:
			all = append(all, g.typed(api.Node{Kind: node.TypeName, Text: a.Text}))
		case node.SliceType, node.ChanType:
			all = append(all, g.typed(a))
		default:
			g.ask(false)
			all = append(all, "int")
		}
	}
	return n.List[0].Text + "[" + strings.Join(all, ", ") + "]"
}

// walk answers all nodes of n.
func walk(n api.Node) []api.Node {
	all := []api.Node{n}
	for _, p := range n.List {
		all = append(all, walk(p)...)
	}
	return all
}
