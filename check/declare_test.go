package check_test

import (
	"testing"

	"mullion/api"
)

func TestMain(t *testing.T) {
	wantFine(t, "func main() { }", "func main() { main() }", "func f() { main() }\nfunc main() { }", "func main() { x := main; x(); go main(); defer main() }")
	wantFault(t, api.ErrName, "", "func f() { }", "type P struct { main int }", "type main struct { }", "func f() { main := 1 }", "func Main() { }")
	wantFault(t, api.ErrType, "func main(x int) { }", "func main() int { return 1 }", "func main[T any]() { }", "func main(x int) bool { return true }")
}

func TestNamesOfDeclarations(t *testing.T) {
	for _, name := range givenNames {
		wantFault(t, api.ErrTwice, "func "+name+"() { }\nfunc main() { }", "type "+name+" struct { }\nfunc main() { }", "func main() { }\nfunc "+name+"[T any](x T) { }", "func f["+name+" any](x int64) { }\nfunc main() { }")
		// Fields, parameters and variables may have them.
		wantFine(t, "type P struct { "+name+" int64 }\nfunc main() { p := P{1}; p."+name+" = p."+name+" }", "func f("+name+" bool) { }\nfunc main() { }", "func main() { var x bool; "+name+" := 1; x = "+name+" == 2; { "+name+" := x; x = "+name+" } }", "func main() { var "+name+" bool; "+name+" = true }")
	}
	for _, name := range []string{"x", "string", "nil", "_", "int16", "uint", "Int", "append", "iota", "f2", "\u00e9"} {
		wantFine(t, "func "+name+"() { }\nfunc main() { "+name+"() }", "type "+name+" struct { }\nfunc main() { x := "+name+"{} }", "func f["+name+" any](y "+name+") { }\nfunc main() { }")
	}
	wantFault(t, api.ErrTwice,
		"func f() { }\nfunc f() { }\nfunc main() { }", "func f() { }\nfunc main() { }\nfunc f(x int) { }", "func f() { }\ntype f struct { }\nfunc main() { }", "type f struct { }\nfunc f() { }\nfunc main() { }", "type P struct { }\ntype P struct { }\nfunc main() { }", "func main() { }\nfunc main() { }", "type main struct { }\nfunc main() { }",
		"type P struct { x int; x int }\nfunc main() { }", "type P struct { x int; y bool; x bool }\nfunc main() { }",
	)
	// A struct type's fields and a function's parameters may be named as what is declared.
	wantFine(t, "type P struct { P int; f bool; main int8 }\nfunc f(P bool, f int, main int) { }\nfunc main() { }")
}

func TestNamesOfParameters(t *testing.T) {
	wantFine(t, "func f[T any, U any](x T, y U) { }\nfunc g[T any](x T) { }\nfunc h(T int) { }\nfunc main() { }", "func f[T any](x int) { T := 1; print(T) }\nfunc main() { }", "func f[T any]() { g := func(T int) { print(T) } }\nfunc main() { }")
	wantFault(t, api.ErrTwice,
		"func f(x int, x int) { }\nfunc main() { }", "func f(x int, y int, x bool) { }\nfunc main() { }", "func f[T any, T any]() { }\nfunc main() { }", "func f[T any, U any, T integer]() { }\nfunc main() { }", "func f[T any](T int) { }\nfunc main() { }", "func f[T any, U any](x T, U int) { }\nfunc main() { }",
		"type P struct { }\nfunc f[P any]() { }\nfunc main() { }", "func f[P any]() { }\ntype P struct { }\nfunc main() { }", "func f[T any, P integer](x P) { }\nfunc main() { }\ntype P struct { }",
		"func main() { f := func(x int, x int) { } }", "func main() { f := func(x int, y int, x bool) { } }",
	)
	// A function's name hides no type parameter's, nor the other way.
	wantFine(t, "func f[g any](x g) { g() }\nfunc g() { }\nfunc main() { }", "func f[f any](x f) f { return x }\nfunc main() { }", "func f[g integer](x int) g { return g(x) }\nfunc g() { }\nfunc main() { }")
}

func TestNamesOfTypes(t *testing.T) {
	wantFine(t,
		"type P struct { a bool; b int8; c uint8; d int32; e uint32; f int64; g uint64; h int }\nfunc main() { var x P }",
		"type P struct { }\ntype Q struct { x P; y []P; z chan P; f func(P) P }\ntype R struct { x P; y Q }\nfunc main() { }", "func f(x P) P { return x }\nfunc main() { }\ntype P struct { }", "func main() { var x P; g := func(x P) { } }\ntype P struct { }",
		"func main() { x := make([]int, 1); var y []int64; y = x; var z func(int) int64; var a func(int64) int; a = z; f(y) }\nfunc f(x []int) { }",
		"func f[T any](x []T, y chan T) func(T) T { var z T; w := make([][]T, 1); return func(a T) T { var b T; return b } }\nfunc main() { }",
	)
	wantFault(t, api.ErrPlace,
		"type P struct { x P }\nfunc main() { }", "type P struct { x []P }\nfunc main() { }", "type P struct { x func() P }\nfunc main() { }", "type P struct { x Q }\ntype Q struct { }\nfunc main() { }", "type P struct { x chan Q }\nfunc main() { }\ntype Q struct { }", "type P struct { x f }\nfunc f() { }\nfunc main() { }", "type P struct { x main }\nfunc main() { }",
		"func main() { var x main }", "func main() { var x any }", "func main() { var x comparable }", "func f(x integer) { }\nfunc main() { }", "func f() len { panic(1) }\nfunc main() { }", "func main() { var x []make }", "func main() { x := make(chan print, 1) }", "func main() { f := func() recover { panic(1) } }",
	)
	wantFault(t, api.ErrName,
		"type P struct { x T }\nfunc main() { }", "func main() { var x y }", "func f(x Q) { }\nfunc main() { }", "func f() Q { panic(1) }\nfunc main() { }", "func main() { x := make([]Q, 1) }", "func main() { f := func(x Q) { } }", "func main() { var x func(int, Q) }", "func main() { var x func() chan Q }", "func main() { var x string }",
		"func f[T any]() { }\nfunc main() { var x T }", "func f[T any]() { }\nfunc g(x T) { }\nfunc main() { }", "func f(x T) { }\nfunc g[T any]() { }\nfunc main() { }", "func f[T any]() { }\ntype P struct { x T }\nfunc main() { }",
	)
}

func TestScopes(t *testing.T) {
	wantBody(t,
		"x := 1; { x := 2; { var x bool } }; x = 3", "x := 1; { x := x; x = 2 }; x = 3", "x := true; { x := 1; x = 2 }; x = false", "{ x := 1; x = 2 }; { x := true; x = false }", "n := true; n = false", "n := n; n = 1", "var n bool; n = true",
		"f := func(n bool) bool { n := 1; n = 2; return true }", "f := func(x int) int { return x + n }; x := f(1)", "x := func(x int) int { return x }(1); x = 2", "f := f(1, true); f = 2",
		"if b { x := 1 } else { x := true }", "if b { x := 1 } else if b { x := 2 } else { x := 3 }", "for b { x := 1; { x := 2 } }", "x := true; for x { x := 1; x = 2 }",
		"select { case x := <-c: x = 1; case x := <-cp: x = p; default: x := true }", "x := c; select { case x := <-x: x = 1 }; x = c", "select { case x := <-c: { x := true; x = b } }", "x := b; select { case c <- 1: x := 2; x = 3; default: x := 4 }", "select { case x := <-c: y := x; case y := <-c: x := y }",
		"x := func() { x := 1; x = 2 }; x()", "x := 1; f := func() bool { x := b; return x }; x = 2",
	)
	wantBodyFault(t, api.ErrTwice,
		"x := 1; x := 2", "x := 1; var x int", "var x int; var x int", "var x int; x := 1", "x := 1; { x := 2 }; x := 3", "{ x := 1; x := 2 }", "if b { x := 1; x := 2 }", "for b { x := 1; var x bool }", "f := func() { x := 1; x := 2 }", "f := func(x int) { y := x; y := 1 }",
		"select { case x := <-c: x := 2 }", "select { case x := <-c: var x bool }", "select { default: x := 1; x := 2 }", "select { case c <- 1: x := 1; x := 2 }", "_ := 1; _ := 2",
	)
	wantBodyFault(t, api.ErrName,
		"x := x", "x := func() { x() }", "x = 1; x := 1", "{ x := 1 }; x = 2", "if b { x := 1 }; x = 2", "if b { x := 1 } else { x = 2 }", "for b { x := 1 }; x = 2", "for x { x := true }", "if x { x := true }", "f := func(x int) { }; x = 1", "f := func() { x := 1 }; x = 1", "select { case x := <-c: }; x = 1", "select { case x := <-x: }", "select { case x := <-c: case c <- x: }", "select { case x := <-c: default: x = 1 }",
		"var x P; y = x", "var x y; y := 1", "x = 1", "x.y = 1", "x[0] = 1", "x()", "print(x)", "go x()", "defer x()", "<-x", "x <- 1", "c <- x", "f := func() int { return x }", "y := x[1]", "y := x.f", "y := x{}", "y := -x", "y := 1 + x", "y := x == x", "y := x[int](1)",
	)
	// A name from outside of a function is known in all of it, and in no other.
	wantFault(t, api.ErrName, "func f(x int) { }\nfunc main() { print(x) }", "func f() { x := 1 }\nfunc main() { print(x) }", "func main() { f := func(x int) { }; print(x) }")
}

// TestHiding: a variable hides what has its name outside, of whatever sort that is.
func TestHiding(t *testing.T) {
	wantBody(t,
		"len := 2; print(len)", "print := func(x bool) { }; print(true)", "f := 1; f = 2", "f := v; f()", "P := 1; P = 2", "int8 := func(x bool) bool { return x }; b = int8(true)", "T := 1; T = 2", "I := w; b = I(1)", "id := w; b = id(1)", "any := 1; any = 2",
		"{ len := 1; int := 2; P := 3; f := 4; id := 5; T := 6 }; print(len(s)); var x int; x = P{1, b}.x; id[T](tt); f(1, b)", "int := n; int = 1; var x int64; x = int", "P := P{1, b}; P.x = 2", "f := f(i8, b); f = 2", "len := len(s); len = 1", "int8 := int8(1); int8 = i8", "main := main; main()",
		"x := func(int bool, int8 int) bool { return int }; b = x(b, 1)", "f := func(P P) P { return P }; p = f(p)", "var int int; int = n", "var P P; P = p", "panic := func(x bool) { }; panic(true)", "close := func() { }; go close(); defer close()", "id := id(1); id = n", "recover := func(x bool) int8 { return 1 }; i8 = recover(b)",
		"select { case len := <-c: i8 = len }", "select { case P := <-cp: P.x = 1 }", "make := func(x bool) bool { return x }; b = (make)(b)",
	)
	wantBodyFault(t, api.ErrPlace,
		"int := 1; var x int", "int8 := 1; var x []int8", "P := 1; var x P", "P := 1; x := make([]P, 1)", "P := p; x := P{1, b}", "T := 1; var x T", "P := 1; f := func(x P) { }", "bool := b; f := func() bool { return b }", "int := 1; id[int](n)", "P := p; id[P](p)", "T := tt; zero[T]()", "P := 1; id[[]P](make([]P, 1))", "f := func(int8 int) { var x int8 }", "select { case int8 := <-c: var x int8 }",
	)
	wantBodyFault(t, api.ErrType, "len := 2; print(len(s))", "int8 := 1; x := int8(2)", "print := 1; print(2)", "f := 1; f(1, b)", "I := 1; I(1)", "panic := 1; panic(1)", "id := 1; id(1)", "id := 1; id[int](1)", "len := s; x := len(s)", "recover := 1; x := recover()", "close := c; close(c)")
	// What hides int does not hide int64.
	wantBody(t, "int := b; var x int64; x = 1; x = int64(2); int = x == 3")
}
