package check_test

import (
	"fmt"
	"strings"
	"testing"

	"mullion/api"
	"mullion/check"
	"mullion/types"
)

// nested answers a text with s in it, so often as is told.
func nested(before string, times int, s, after string) string {
	return strings.Repeat(before, times) + s + strings.Repeat(after, times)
}

// TestDepthOfTypes: what is written, and what comes of expressions, is no deeper than MaxDepth.
func TestDepthOfTypes(t *testing.T) {
	const wrap = "func wrap[T any](x T) []T { return make([]T, 1) }\nfunc take[T any](x T) { }\nfunc takes[T any](x []T) { }\n"
	deep := func(n int, s string) string { return nested("[]", n, s, "") }
	for _, form := range []string{
		"func main() { var x %s }", "func main() { x := make(%s, 1) }", "func f(x %s) { }\nfunc main() { }", "func f() %s { panic(1) }\nfunc main() { }", "type P struct { x int; y chan %s }\nfunc main() { }",
		"func main() { f := func(x %s) { } }", "func main() { f := func() chan %s { panic(1) } }", "func f[T any](x %s, y T) { }\nfunc main() { }", "func f[T any]() { }\nfunc main() { f[%s]() }",
	} {
		most := api.MaxDepth
		if strings.Contains(form, "f := func") || strings.Contains(form, "struct") {
			// They stand within another type.
			most--
		}
		most -= strings.Count(form, "chan")
		wantFine(t, fmt.Sprintf(form, deep(most, "int8")))
		wantFault(t, api.ErrLarge, fmt.Sprintf(form, deep(most+1, "int8")))
		wantFine(t, fmt.Sprintf(form, deep(most-2, "func() chan bool")))
		wantFault(t, api.ErrLarge, fmt.Sprintf(form, deep(most-1, "func(int) chan bool")))
	}
	wantFine(t, wrap+"func main() { x := "+nested("wrap(", 8, "1", ")")+" }")
	wantFault(t, api.ErrLarge, wrap+"func main() { x := "+nested("wrap(", 9, "1", ")")+" }")
	wantFault(t, api.ErrLarge, wrap+"func main() { "+nested("wrap(", 9, "1", ")")+" }")
	wantFine(t, wrap+"func main() { take["+deep(8, "int8")+"](make("+deep(8, "int8")+", 1)); takes["+deep(7, "int8")+"](make("+deep(8, "int8")+", 1)) }")
	wantFault(t, api.ErrLarge, wrap+"func main() { takes["+deep(8, "int8")+"](make("+deep(8, "int8")+", 1)) }")
	// A function as a value is a type about those of its parameters; one that is called is none.
	for _, call := range []string{"f(x)", "go f(x)", "defer f(x)", "f(f(x))"} {
		wantFine(t, "func f(x "+deep(8, "bool")+") "+deep(8, "bool")+" { return x }\nfunc main() { var x "+deep(8, "bool")+"; "+call+" }")
	}
	wantFine(t, "func f(x "+deep(7, "bool")+") { }\nfunc main() { g := f }")
	wantFault(t, api.ErrLarge, "func f(x "+deep(8, "bool")+") { }\nfunc main() { g := f }")
	wantFault(t, api.ErrLarge, "func f() "+deep(8, "bool")+" { panic(1) }\nfunc main() { g := f }")
	structs := "type P0 struct { }\n"
	for i := range 9 {
		structs += fmt.Sprintf("type P%d struct { x P%d }\n", i+1, i)
		if i < 8 {
			wantFine(t, structs+"func main() { }")
		}
	}
	wantFault(t, api.ErrLarge, structs+"func main() { }")
}

// TestCellsOfTypes: no struct has more than MaxCells.
func TestCellsOfTypes(t *testing.T) {
	fields := func(n int, s string) string {
		text := ""
		for i := range n {
			text += fmt.Sprintf("x%d %s; ", i, s)
		}
		return text
	}
	four := "type P struct { " + fields(16, "int") + "}\ntype Q struct { " + fields(4, "P") + "}\n"
	wantFine(t, four+"func main() { var x Q }")
	wantFine(t, four+"type R struct { x Q }\nfunc main() { }")
	wantFine(t, four+"type R struct { x []Q; y chan Q; z func(Q, Q) Q }\nfunc main() { }")
	wantFine(t, four+"type Z struct { }\ntype R struct { x Q; y Z }\nfunc main() { }")
	for _, more := range []string{"bool", "[]P", "chan int8", "func()"} {
		wantFault(t, api.ErrLarge, four+"type R struct { x Q; y "+more+" }\nfunc main() { }")
		wantFault(t, api.ErrLarge, four+"type R struct { y "+more+"; x Q }\nfunc main() { }")
	}
	wantFault(t, api.ErrLarge, "type P struct { "+fields(16, "int")+"}\ntype Q struct { "+fields(5, "P")+"}\nfunc main() { }")
}

// TestTypesLargerThanMemory: types may be too large to be written out; only heads are.
func TestTypesLargerThanMemory(t *testing.T) {
	many := func(s string) string { return nested(s+", ", 15, s, "") }
	structs, funcs := "type A0 struct { }\n", "type B0 struct { x int }\n"
	for i := range 8 {
		structs += fmt.Sprintf("type A%d struct { ", i+1)
		for j := range 16 {
			structs += fmt.Sprintf("x%d A%d; ", j, i)
		}
		structs += "}\n"
	}
	for i := range 3 {
		funcs += fmt.Sprintf("type B%d struct { ", i+1)
		for j := range 16 {
			funcs += fmt.Sprintf("x%d func(%s) B%d; ", j, many(fmt.Sprint("B", i)), i)
		}
		funcs += "}\n"
	}
	const generics = "func wide[T any](x T) func(T, T, T, T, T, T, T, T, T, T, T, T, T, T, T, T) T { panic(1) }\nfunc same[T any](x T, y T) T { return x }\nfunc inner[T any](f func(T, T, T, T, T, T, T, T, T, T, T, T, T, T, T, T) T) T { panic(1) }\n"
	wide := nested("wide(", 8, "1", ")")
	for _, s := range []string{
		structs + "func main() { var x A8; var y A8; print(x == y); x = y; f := func(a A7) { }; f(x.x0) }",
		structs + generics + "func main() { var x A8; y := same(x, x); print(same(x, y) == x); var z A7; w := wide(z); w = wide(z); w = wide(y.x3) }",
		funcs + "func main() { var x B3; x.x0 = x.x1; var y B2; f := func(z B3) B3 { return z }; x = f(x); s := make([]B3, 2); s[0] = x }",
		generics + "func main() { x := " + wide + "; y := same(x, " + wide + "); x = y }",
		generics + "func main() { print(" + nested("inner(", 8, wide, ")") + " << 2) }",
	} {
		wantFine(t, s)
		if sigs, _, e := check.Program(read(t, s)); e != api.OK || len(sigs) == 0 {
			t.Errorf("%d", e)
		}
	}
	// What is no head is not written out; a text is found fine, though its heads are too large.
	if _, _, e := check.Source(structs + funcs + "func f(x A8, y B3) { }\nfunc main() { }"); e != api.OK {
		t.Errorf("error %d of a text with large heads", e)
	}
	wantFault(t, api.ErrLarge, generics+"func main() { wide("+wide+") }")
	wantFault(t, api.ErrType, structs+"func main() { var x A8; var y A7; x = y }")
	wantFault(t, api.ErrType, generics+"func main() { x := same("+wide+", "+nested("wide(", 7, "1", ")")+") }")
	wantFault(t, api.ErrType, generics+"func main() { x := same("+wide+", "+nested("wide(", 8, "true", ")")+") }")
	wantFault(t, api.ErrType, generics+"func main() { print("+nested("inner(", 9, wide, ")")+") }")
}

// TestNests: expressions and blocks as deep as a tree may be, each of them gone through once.
func TestNests(t *testing.T) {
	const id = "func id[T any](x T) T { return x }\nfunc two(x int, y int) int { return x }\n"
	for _, s := range []string{
		nested("id(", 58, "1", ")"), nested("two(1, ", 58, "2", ")"), nested("(1 + ", 58, "x", ")"), nested("-", 58, "x", ""), nested("int(", 58, "2", ")"), nested("id[int](", 58, "1", ")"), nested("(x + ", 58, "1", ")"),
		nested("func() int { return ", 15, "x", " }()"), nested("id(func() int { return ", 12, "x", " })()"),
	} {
		wantFine(t, id+"func main() { x := 1; x = "+s+" }")
		wantFault(t, api.ErrType, id+"func main() { x := true; x = "+s+" }")
	}
	wantFine(t, "func main() "+nested("{ ", 60, "", "}"))
	wantFine(t, "func main() { "+nested("for true { ", 30, "break", "}")+" }")
	wantFault(t, api.ErrPlace, "func main() { "+nested("if true { ", 30, "break", "}")+" }")
}

// TestManyNodes: programs as large as a tree may be.
func TestManyNodes(t *testing.T) {
	wantFine(t, "func f[T any](x T, y T) T { return x }\nfunc main() {\nx := 1\n"+strings.Repeat("x = f(x, 1)\n", 1750)+"}")
	wantFine(t, "func main() {\nx := 1\n"+strings.Repeat("{ x := x\n", 58)+strings.Repeat("x = x + x\n", 2500)+strings.Repeat("}\n", 58)+"}")
	text := ""
	for i := range 1000 {
		text += fmt.Sprintf("func f%d(x int8) int8 { return f%d(x) }\n", i, (i+1)%1000)
	}
	wantFine(t, text+"func main() { }")
	if sigs, _, _ := check.Program(read(t, text+"func main() { }")); len(sigs) != 1001 {
		t.Errorf("%d heads", len(sigs))
	}
	wantFault(t, api.ErrName, strings.Replace(text, "return f0(x)", "return g0(x)", 1)+"func main() { }")
}

// TestParametersOfTypes: the longest lists.
func TestParametersOfTypes(t *testing.T) {
	var names, list []string
	for i := range 16 {
		names = append(names, fmt.Sprint("x", i))
		list = append(list, fmt.Sprint("T", i))
	}
	params, takes := strings.Join(list, " any, ")+" any", ""
	for i, s := range names {
		takes += ", " + s + " " + list[i]
	}
	text := "func f[" + params + "](" + takes[2:] + ") T15 { return x15 }\n"
	wantFine(t, text+"func main() { print(f("+nested("1, ", 15, "true", "")+")); print(f["+nested("int8, ", 15, "bool", "")+"]("+nested("1, ", 15, "true", "")+")) }")
	wantFault(t, api.ErrInfer, text+"func main() { f["+nested("int8, ", 14, "bool", "")+"]("+nested("1, ", 15, "true", "")+") }")
	wantFault(t, api.ErrType, text+"func main() { f("+nested("1, ", 14, "true", "")+") }")
}

// TestHeadsAreSound: the types of heads are types.
func TestHeadsAreSound(t *testing.T) {
	sigs, _, _ := check.Program(read(t, "type P struct { x int; y func(int8) chan bool }\ntype Q struct { p P; q []P }\nfunc f[T any, U integer](x T, y func(U, Q) []T) Q { panic(1) }\nfunc main() { }"))
	for _, s := range sigs {
		for _, l := range [][]api.Type{s.TParams, s.Params, s.Res} {
			for _, x := range l {
				if e := types.Check(x); e != api.OK {
					t.Errorf("%d of a type of %s", e, s.Name)
				}
			}
		}
	}
}
