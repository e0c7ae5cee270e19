package check_test

import (
	"strings"
	"testing"

	"mullion/api"
)

func TestDefinitions(t *testing.T) {
	wantBody(t, "x := 1; n = x; x = 2", "x := i8; x = 5", "x := p; x.x = 1", "x := f; i8 = x(1, b)", "x := tt; x = tt", "x := b && b; x = b", "x := s[0]; i8 = x", "x := id(p); x = p", "x := <-cp; x = p", "x := recover(); x = n", "x := make(chan T, 1); x <- tt", "x := func() { }; v = x", "x := 1 << i8; x = n", "x := -5; x = n")
	wantBodyFault(t, api.ErrType, "x := g()", "x := v()", "x := print(1)", "x := panic(1)", "x := close(c)", "x := none[int]()", "x := 1; x = i8", "x := 1; i8 = x", "x := i8; x = n", "x := f; x = w", "x := 1 == 1; x = 1")
	wantBody(t, "var x int8; x = i8", "var x []T; x = st", "var x P; x.x = 1", "var x func(int8) bool; x = w", "var x chan P; x = cp", "var x I; x = 5", "var x E; x = e", "var x func(); x = g")
	wantBodyFault(t, api.ErrType, "var x int8; x = n", "var x []int; x = s", "var x T; x = cc", "var x func(); x = w")
}

func TestAssignments(t *testing.T) {
	for _, x := range operands {
		for _, y := range operands {
			if x.name == y.name {
				wantBody(t, x.name+" = "+y.name)
			} else {
				wantBodyFault(t, api.ErrType, x.name+" = "+y.name)
			}
		}
		wantBodyFault(t, api.ErrType, x.name+" = g()", x.name+" = h", x.name+" = func(x T) { }")
	}
	wantBody(t, "v = g; v = main; v = func() { n = 1 }", "p = q.p; q.p = p; q.s[0] = p; p = q.s[1]; ss[0] = q.s; ss[0][0] = p; ss[0][0].x = n; ff.c = c", "n = i64; i64 = n", "f := func() { i8 = 1; p.x = 2; s[0] = 3 }", "func() []P { return q.s }()[0].x = 1", "x := p; x.b = b; x = p")
	wantBodyFault(t, api.ErrPlace, "f = f", "g = v", "main = v", "id = 1", "P = p", "int = n", "T = tt", "len = 1", "true2 := 1; any = true2")
	wantBodyFault(t, api.ErrType, "p = q", "p.x = p", "q.s = p", "q.s[0] = p.x", "ss = q.s", "ss[0] = p", "s[0] = n", "n = i8", "i8 = u8", "i64 = i32")
}

func TestHeadsOfIfAndFor(t *testing.T) {
	for _, head := range []string{"b", "true", "false", "n < 5", "b && p.b", "w(1)", "p == p", "!b", "1 < 2", "cc == cc", "f(1, b) == 5", "func() bool { return b }()", "(P{1, b} == p)"} {
		wantBody(t, "if "+head+" { }", "for "+head+" { }", "if b { } else if "+head+" { } else { }", "for "+head+" { break; continue }")
	}
	for _, head := range []string{"n", "1", "p", "tt", "g()", "f(1, b)", "w", "s", "c", "ii", "f", "recover()"} {
		wantBodyFault(t, api.ErrType, "if "+head+" { }", "for "+head+" { }", "if b { } else if "+head+" { }")
	}
	wantBodyFault(t, api.ErrPlace, "if len { }", "for P { }", "if id { }")
	wantBodyFault(t, api.ErrName, "if b { x = 1 }", "if b { } else { x = 1 }", "if b { } else if b { x = 1 }", "for b { x = 1 }", "if x { }", "for x { }")
}

func TestLeaves(t *testing.T) {
	for _, word := range []string{"break", "continue"} {
		wantBody(t, "for b { "+word+" }", "for b { if b { "+word+" } else { "+word+" } }", "for b { { "+word+" } }", "for b { select { case <-c: "+word+"; default: "+word+" } }", "for b { for b { "+word+" }; "+word+" }", "v = func() { for b { "+word+" } }", "for b { v = func() { for b { "+word+" } }; "+word+" }")
		wantBodyFault(t, api.ErrPlace, word, "if b { "+word+" }", "{ "+word+" }", "select { case <-c: "+word+" }", "select { default: "+word+" }", "for b { }; "+word, word+"; for b { }", "for b { v = func() { "+word+" } }", "v = func() { "+word+" }; for b { }", "for b { v = func() { select { default: "+word+" } } }", "for func() bool { "+word+"; return b }() { }", "for b { func() { for b { }; "+word+" }() }")
	}
}

func TestReturns(t *testing.T) {
	wantBody(t, "return", "if b { return }", "return; n = 1", "for b { return }", "select { default: return }", "v = func() { return }", "x := func() int { return n }", "x := func() T { return tt }", "w = func(x int8) bool { if b { return b }; return x == 1 }")
	wantBodyFault(t, api.ErrType, "return 1", "return g()", "return tt", "x := func() int { return }", "x := func() int { return b }", "x := func() int { return g() }", "x := func() T { return cc }", "x := func() int { v = func() { return 1 }; return 1 }", "x := func() int8 { return n }", "v = func() { w = func(y int8) bool { return }; return }", "x := func() bool { x := func() int { return 1 }; return 1 }")
	wantFine(t, "func f() { return }\nfunc g() int { return 1 }\nfunc h[T any](x T) T { return x }\nfunc i() P { return P{} }\ntype P struct { }\nfunc j() func() { return main }\nfunc main() { return }")
	wantFault(t, api.ErrType, "func f() { return 1 }\nfunc main() { }", "func f() int { return }\nfunc main() { }", "func f() int { return true }\nfunc main() { }", "func f[T any](x T) T { return 1 }\nfunc main() { }", "func main() { return 1 }", "func f() int8 { x := 1; return x }\nfunc main() { }", "func f() func() { return f }\nfunc main() { }", "func f() int { return main() }\nfunc main() { }", "func f() { return main() }\nfunc main() { }")
}

func TestSelects(t *testing.T) {
	wantBody(t, "select { }", "select { default: }", "select { case <-c: }", "select { case x := <-c: i8 = x }", "select { case x := <-cp: p = x; case c <- i8: n = 1; case c <- 5: default: n = 2 }", "select { case x := <-<-make(chan chan T, 1): tt = x }", "select { case make(chan I, 1) <- 127: }", "select { case cp <- <-cp: case x := <-func() chan bool { return make(chan bool, 1) }(): b = x }")
	wantBodyFault(t, api.ErrType, "select { case <-n: }", "select { case x := <-s: }", "select { case <-g(): }", "select { case c <- b: }", "select { case c <- n: }", "select { case s <- 1: }", "select { case cp <- 1: }", "select { case x := <-c: b = x }", "select { case x := <-cp: i8 = x }", "select { case c <- g(): }", "select { case <-c: n = b }", "select { default: n = b }", "select { case c <- 1: n = b }", "select { case <-1: }")
	wantBodyFault(t, api.ErrConst, "select { case c <- 128: }")
	wantBodyFault(t, api.ErrName, "select { case z <- 1: }", "select { case <-z: }", "select { case c <- z: }", "select { default: z = 1 }", "select { case <-c: z() }")
}

func TestEvaluations(t *testing.T) {
	wantBody(t, "g()", "f(1, b)", "<-c", "<-cp", "len(s)", "recover()", "int8(5)", "I(n)", "id(p)", "w(1)", "func() int { return 1 }()", "print(1); print(2)")
	wantBodyFault(t, api.ErrType, "<-p", "f(b, b)", "g(g())", "<-g()")
}

// ends: blocks of a function with a result, which does not end without one; and such that do.
func TestEnds(t *testing.T) {
	const result = "func f(b bool, c chan int, n int) int { %s }\nfunc main() { }"
	in := func(s string) []string {
		return []string{
			strings.Replace(result, "%s", s, 1), "func main() { b := true; c := make(chan int, 1); f := func() int { " + s + " } }",
			strings.Replace(result, "%s", "b = b; { "+s+" }", 1), strings.Replace(result, "%s", "if b { "+s+" } else if b { return 1 } else { return 2 }", 1), strings.Replace(result, "%s", "if b { return 1 } else { "+s+" }", 1),
			strings.Replace(result, "%s", "select { case <-c: "+s+"\n case c <- 1: return 1 }", 1), strings.Replace(result, "%s", "select { case <-c: return 1; default: "+s+" }", 1), strings.Replace(result, "%s", "for false { }; if b { return 1 } else if b { return 2 } else { "+s+" }", 1),
		}
	}
	for _, s := range []string{
		"return 1", "panic(1)", "b = b; return 1", "{ return 1 }", "{ { panic(1) } }", "if b { return 1 } else { return 2 }", "if b { return 1 } else if b { panic(1) } else { return 2 }", "if b { if b { return 1 } else { return 2 } } else { return 3 }", "for true { }", "for true { b = b }", "for true { continue }", "for true { for b { break } }", "for true { for true { break } }", "for true { x := func() { for b { break } } }", "for true { return 1 }", "for true { select { case <-c: continue } }",
		"select { case <-c: return 1 }", "select { default: return 1 }", "select { case x := <-c: return x; case c <- 1: panic(2); default: for true { } }", "select { case <-c: if b { return 1 } else { return 2 } }", "select { case <-c: select { default: return 1 } }", "return 1; return 2", "break2 := 1; return break2", "for b { }; return 1", "if b { }; panic(1)", "return 1; { return 2 }",
	} {
		wantFine(t, in(s)...)
	}
	for _, s := range []string{
		"", "b = b", "return 1; b = b", "panic(1); b = b", "if b { return 1 }", "if b { return 1 } else { }", "if b { } else { return 1 }", "if b { return 1 } else if b { return 2 }", "if b { return 1 } else if b { } else { return 2 }", "if true { return 1 }", "for b { return 1 }", "for false { return 1 }", "for true == true { }", "for !false { }", "for true && true { }", "for true { break }", "for true { if b { break } }", "for true { return 1; break }", "for true { { break } }", "for true { select { default: break } }", "for true { for b { break }; break }", "for true { for b { }; if b { } else { break } }",
		"select { }", "select { case <-c: }", "select { case <-c: return 1; default: }", "select { case <-c: return 1; case c <- 1: b = b }", "select { default: b = b }", "select { case <-c: return 1; b = b }", "{ }", "{ return 1; b = b }", "{ return 1 }; { }", "for true { }; b = b", "print(1)", "f2 := 1; f2 = 2", "recover()", "x := func() int { return 1 }", "x := func() int { panic(1) }; x()", "func() int { return 1 }()", "panic := func(n int) { }; panic(1)", "panic := func(n int) { }; { panic(1) }", "var panic func(int8); panic(1)", "go main()", "defer main()", "c <- 1", "<-c", "var x int", "for true { }; { }",
	} {
		wantFault(t, api.ErrEnd, in(s)...)
	}
	wantFault(t, api.ErrEnd, "func f(panic func(int)) int { panic(1) }\nfunc main() { }", "func f() int { g := func(panic func(int)) bool { panic(1) }; return 1 }\nfunc main() { }", "func f[T any]() T { }\nfunc main() { }", "func f() int { if true { panic := main; panic() } else { panic(1) } }\nfunc main() { }", "func f() int { panic := main; g := func() bool { panic() }; return 1 }\nfunc main() { }", "func f(c chan func(int)) int { select { case panic := <-c: panic(1) } }\nfunc main() { }")
	wantFine(t, "func f() int { { panic := 1; panic = 2 }; panic(1) }\nfunc main() { }", "func f() { }\nfunc g() { for true { break } }\nfunc main() { h := func() { if true { return } } }", "func f(c chan int) int { select { case panic := <-c: print(panic) }; panic(1) }\nfunc main() { }")
	// A break belongs to the innermost for of its function.
	wantFine(t, "func f() int { for true { g := func() { for true { break } }; g() } }\nfunc main() { }", "func f() int { for true { for func() bool { for true { break }; return true }() { } } }\nfunc main() { }")
}
