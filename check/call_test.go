package check_test

import (
	"testing"

	"mullion/api"
)

func TestCalls(t *testing.T) {
	wantBody(t, "g()", "i8 = f(i8, b)", "f(1, true)", "p = h(w, cp)", "v()", "b = w(5)", "x := f(f(1, b), b == b)", "fs := make([]func() func(int8) bool, 1); b = fs[0]()(1)", "b = ff.f(i8)", "main()", "f(int8(n), n == 1)", "h(func(a int8) bool { return b }, make(chan P, 1))")
	wantBodyFault(t, api.ErrType, "f()", "f(1)", "f(1, b, 1)", "g(1)", "f(b, 1)", "f(n, b)", "f(i8, i8)", "f(g(), b)", "h(v, cp)", "h(w, c)", "h(f, cp)", "v(1)", "w()", "w(b)", "w(n)", "w(1, 1)", "b = f(1, b)", "x := g()", "x := v()", "n()", "p()", "s(1)", "c()", "tt()", "cc(1)", "ii(1)", "true()", "f(1, b)()", "w(1)(1)", "P{1, b}(1)", "ff.c(1)", "main(1)", "x := main()", "f(1, b)(2)", "x := func() { }()", "g()()", "print(g())")
	wantBodyFault(t, api.ErrPlace, "P(p)", "T(tt)", "C(cc)", "bool(b)", "E()", "any(1)", "integer(1)", "comparable(1)", "(make)(s)", "x := P(1)", "Q(p, q.s, 1)", "x := bool(true)")
	wantBodyFault(t, api.ErrName, "z()", "x := z(1)", "f(z(), b)", "z(g())", "append(s, 1)", "string(1)", "int16(1)")
}

func TestBuiltIn(t *testing.T) {
	wantBody(t,
		"n = len(s); i64 = len(ss); n = len(st); n = len(ss[0]); len(s); n = len(make([]int, 3))", "print(i8); print(u8); print(i32); print(u32); print(n); print(u64); print(ii); print(b); print(5); print(1 == 2); print(true); print(len(s)); print(f(1, b))", "panic(n); panic(i64); panic(5); panic(len(s)); panic(-1)", "n = recover(); recover(); x := recover(); i64 = x", "close(c); close(make(chan []T, 1))",
	)
	wantBodyFault(t, api.ErrType,
		"len(n)", "len(c)", "len(p)", "len(tt)", "len(w)", "len(g())", "len()", "len(s, s)", "i8 = len(s)", "b = len(s)", "print(p)", "print(s)", "print(c)", "print(w)", "print(tt)", "print(cc)", "print(e)", "print(f)", "print(g())", "print()", "print(1, 2)", "x := print(1)", "panic(i8)", "panic(u64)", "panic(ii)", "panic(b)", "panic(p)", "panic()", "panic(1, 2)", "panic(g())", "x := panic(1)", "recover(1)", "i8 = recover()", "b = recover()", "recover(g())", "n = panic(1)",
	)
}

func TestConversions(t *testing.T) {
	for _, to := range append([]string{"I"}, numberNames...) {
		into := map[string]string{"I": "ii", "int8": "i8", "uint8": "u8", "int32": "i32", "uint32": "u32", "int64": "i64", "uint64": "u64", "int": "n"}[to]
		for _, x := range []string{"i8", "u8", "i32", "u32", "i64", "u64", "n", "ii", "0", "127", "1 + 2", "len(s)", "f(1, b)", "s[0]", "1 << n"} {
			wantBody(t, into+" = "+to+"("+x+")", to+"("+x+")")
		}
		for _, x := range []string{"b", "p", "s", "c", "w", "v", "tt", "cc", "g()", "1 == 2", "true", "f", "E{}", "", "1, 2", "i8, i8"} {
			wantBodyFault(t, api.ErrType, "x := "+to+"("+x+")")
		}
		wantBodyFault(t, api.ErrConst, "x := "+to+"(1 / 0)")
		if to != "uint64" {
			wantBodyFault(t, api.ErrConst, "x := "+to+"(18446744073709551615)")
		}
	}
	// What comes of it is no constant, and has the type.
	wantBody(t, "i8 = int8(100) + 100; i8 = int8(127) + int8(127); u8 = uint8(200) << 3; b = int8(1) == i8", "n = int(1); i64 = int(1); n = int64(1)")
	wantBodyFault(t, api.ErrType, "i8 = uint8(1)", "n = int8(1)", "x := int8(1) + uint8(1)", "i8 = I(1)", "x := I(1) + i8", "x := int(1) + i32")
	wantBodyFault(t, api.ErrConst, "i8 = int8(100) + 200", "b = uint8(1) == 256")
}

func TestInference(t *testing.T) {
	wantBody(t,
		"n = id(5); i8 = id(i8); b = id(b); p = id(p); s = id(s); w = id(w); tt = id(tt); cc = id(cc); ii = id(ii); w = id(w); x := id(f); i8 = x(1, b)", "n = pair(1, 2); b = pair(s, b); c = pair(w, c); cc = pair(tt, cc); p = pair(g, p); n = pair(tt, 5)",
		"n = same(1, 2); i8 = same(i8, 5); i8 = same(5, i8); ii = same(ii, 1); tt = same(tt, tt); s = same(s, s); u64 = same(1 << 63, u64)", "n = sum(1, 2); u8 = sum(u8, 255); u8 = sum(255, u8); ii = sum(ii, ii); ii = sum(127, ii); i8 = sum(i8, i8)", "i8 = first(s, 5); i8 = first(s, i8); p = first(q.s, p); tt = first(st, tt); q.s = first(ss, q.s)",
		"b = apply(i8, w); b = apply(5, w); x := apply(tt, func(x T) []T { return st }); st = x; n = apply(b, func(x bool) int { return 1 })", "i8 = id(id(id(i8))); n = id(id(1)) + id(2)", "b = id(1 == 2); n = id(1 << n); n = id(len(s)); b = same(b, 1 < 2); p = id(P{1, b})", "id(1); sum(1, 1); go id(1); defer same(p, p)",
		"x := id(func() { }); v = x", "x := id(id(w)); w = x",
	)
	wantBodyFault(t, api.ErrType,
		"same(i8, u8)", "same(i8, n)", "same(b, 1)", "same(1, b)", "same(s, ss)", "same(tt, cc)", "same(p, e)", "first(n, 1)", "first(s, b)", "first(ss, p)", "first(st, i8)", "apply(n, w)", "apply(b, w)", "apply(w, w)", "apply(1, v)", "apply(i8, f)", "first(1, 1)", "first(c, i8)", "i8 = id(n)", "n = id(i8)", "i8 = id(5)", "b = sum(1, 2)", "i8 = sum(1, 2)",
		"pair(1, s)", "pair(1, w)", "pair(1, tt)", "pair(1, q)", "pair(1, ff)", "sum(b, b)", "sum(p, p)", "sum(tt, tt)", "sum(cc, cc)", "sum(s, s)", "id()", "id(1, 2)", "pair(1)", "sum(1)", "sum(i8, u8)", "sum(1, b)", "none(1)", "zero(1)", "x := none[int]()",
	)
	wantBodyFault(t, api.ErrInfer, "none()", "zero()", "x := zero()", "id(g())", "tt = zero()", "go none()", "defer none()", "first(1, g())")
	wantBodyFault(t, api.ErrPlace, "id(id)", "same(w, id)", "id(int)", "id(P)", "apply(1, id)")
	wantBodyFault(t, api.ErrConst, "same(i8, 128)", "same(128, i8)", "sum(ii, 128)", "sum(-1, ii)", "first(s, 200)", "id(1 << 63)", "sum(1, 1 << 63)", "apply(128, w)", "pair(1 << 63, b)")
}

// TestInferenceInGenerics: the type parameters of who calls are types like others, also where those of what is called have the same names.
func TestInferenceInGenerics(t *testing.T) {
	wantFine(t,
		"func f[T any](x T) T { return f(x) }\nfunc main() { f(1) }", "func f[T any](x T) T { f(1); f(make([]T, 1)); return f[T](x) }\nfunc main() { }", "func f[T any, U any](x T, y U) T { f(y, x); y = f(y, x); return f[T, U](x, y) }\nfunc main() { }",
		"func f[U any, T any](x U, y T) U { y = f(y, x); return f(x, x) }\nfunc main() { }", "func f[T any](x []T) T { return f(x) }\nfunc g[T any](x T) { x = f(make([]T, 1)); y := make([][]T, 2); z := f(y); x = f(z) }\nfunc main() { }",
		"func f[T comparable](x T) bool { return x == x }\nfunc g[T comparable](x T) bool { return f(x) }\nfunc h[T integer](x T) bool { return f(x) && g(x) && x < 5 }\nfunc main() { }", "func f[A integer, B integer](x A, y B) A { return x << y + A(y) }\nfunc g[B integer, A integer](x A, y B) A { return f(x, y) }\nfunc main() { print(g(1, uint8(2))) }",
	)
	wantFault(t, api.ErrType,
		"func f[T comparable](x T) { }\nfunc g[T any](x T) { f(x) }\nfunc main() { }", "func f[T integer](x T) { }\nfunc g[T comparable](x T) { f(x) }\nfunc main() { }", "func f[T any](x T, y T) { }\nfunc g[T any, U any](x T, y U) { f(x, y) }\nfunc main() { }", "func f[T any, U any](x T, y U) T { return f(y, x) }\nfunc main() { }", "func f[T any](x []T) T { return f(x[0]) }\nfunc main() { }",
		"func f[T integer](x T, y T) { }\nfunc g[T integer, U integer](x T, y U) { f(x, y) }\nfunc main() { }", "func f[T integer](x T) T { return x }\nfunc g[T integer](x T) int8 { return f(x) }\nfunc main() { }", "func f[T any](x T) bool { return x == x }\nfunc main() { }", "func f[T comparable](x T) bool { return x < x }\nfunc main() { }", "func f[T integer](x T) int8 { return x }\nfunc main() { }", "func f[T integer](x T) T { y := 1; return y }\nfunc main() { }",
	)
}

// TestInferenceOfParts: what stands in a parameter's type beside its type parameters has to be the same.
func TestInferenceOfParts(t *testing.T) {
	const f = "type P struct { x int }\nfunc f[T any](x T, y int8, z func(T, []int8) bool) T { return x }\nfunc g[T any, U any](x func([]T, chan func(U)) U, y chan P) T { panic(1) }\nfunc main() { var i int8; var s []int8; var b bool; var n int; var c chan P\n"
	wantFine(t,
		f+"n = f(n, i, func(a int, c []int8) bool { return b }); b = f(b, 5, func(a bool, c []int8) bool { return b }); s = f(s, 127, func(a []int8, c []int8) bool { return a[0] == c[0] }); n = f(1, 2, func(a int, c []int8) bool { return a == 1 }) }",
		f+"b = g(func(x []bool, y chan func(P)) P { return P{1} }, c); i = g(func(x []int8, y chan func([]int)) []int { return make([]int, 1) }, make(chan P, 1)) }",
	)
	for _, z := range []string{"func(a int, c []int) bool { return b }", "func(a int, c []bool) bool { return b }", "func(a int, c chan int8) bool { return b }", "func(a int, c int8) bool { return b }", "func(a int, c []int8) { }", "func(a int, c []int8, d bool) { }", "func(a int, c []int8) int { return a }", "func(a int) bool { return b }", "func(a int, c []int8, d bool) bool { return b }", "func(a bool, c []int8) bool { return b }", "s", "c", "n", "b", "1"} {
		wantFault(t, api.ErrType, f+"n = f(n, i, "+z+") }")
	}
	wantFault(t, api.ErrType,
		f+"n = f(n, n, func(a int, c []int8) bool { return b }) }", f+"n = f(n, b, func(a int, c []int8) bool { return b }) }", f+"b = f(b, i, func(a int, c []int8) bool { return b }) }", f+"n = f(1, i, func(a int8, c []int8) bool { return b }) }",
		f+"n = g(func(x []int, y chan func(int)) bool { return b }, c) }", f+"n = g(func(x chan int, y chan func(int)) int { return 1 }, c) }", f+"n = g(func(x []int, y []func(int)) int { return 1 }, c) }", f+"n = g(func(x []int, y chan func(int) int) int { return 1 }, c) }", f+"n = g(func(x []int, y chan func(int)) int { return 1 }, make(chan int, 1)) }",
	)
	wantFault(t, api.ErrConst, f+"n = f(n, 128, func(a int, c []int8) bool { return b }) }")
	wantFault(t, api.ErrLarge, "func f[T any](x T) chan [][]func([]T) { panic(1) }\nfunc main() { f(f(f(1))) }", "func f[T any](x T) func() []T { panic(1) }\nfunc main() { x := f(make([][][][][][][]int, 1)) }")
	wantFine(t, "func f[T any](x T) func() []T { panic(1) }\nfunc main() { x := f(make([][][][][][]int, 1)) }")
}

func TestTypeArguments(t *testing.T) {
	wantBody(t,
		"i8 = id[int8](5); i8 = id[int8](i8); n = id[int](n); i64 = id[int64](n); b = id[bool](b); p = id[P](p); s = id[[]int8](s); c = id[chan int8](c); tt = id[T](tt); ss = id[[][]P](ss); x := id[[]func(int8) bool](make([]func(int8) bool, 1)); w = x[0]", "n = pair[int8, int](1, 2); b = pair[T, bool](tt, b); cc = pair[C, C](cc, cc); ii = pair[I, I](1, 2)", "u8 = sum[uint8](200, 100); ii = sum[I](127, ii); n = sum[int](1, 2)",
		"none[int](); none[T](); none[[]P](); none[chan T]()", "tt = zero[T](); i8 = zero[int8](); st = zero[[]T](); p = zero[P]()", "go none[int8](); defer none[P](); id[int8](5); go id[int8](1)", "i8 = first[int8](s, 1); b = apply[int8, bool](1, w)", "i8 = same[int8](1, 2)",
	)
	wantBodyFault(t, api.ErrType, "id[int8](n)", "id[bool](1)", "id[[]int](s)", "id[P](e)", "id[T](cc)", "pair[int, []int8](1, s)", "pair[int, T](1, tt)", "pair[int, Q](1, q)", "sum[bool](b, b)", "sum[P](p, p)", "sum[T](tt, tt)", "sum[C](cc, cc)", "sum[[]int](s, s)", "id[int]()", "id[int](1, 2)", "n = id[int8](1)", "first[int](s, 1)", "same[int8](i8, u8)", "x := none[int]()", "none[int](1)", "pair[[]func(), F](make([]func(), 1), ff)", "f[int8](1, b)", "g[int]()", "w[int8](1)", "n[int](1)", "p[P](1)", "id[int8](1)(2)", "id[int8](g())")
	wantBodyFault(t, api.ErrInfer, "pair[int](1, 2)", "id[int, int](1)", "apply[int8](1, w)", "sum[int8, int8](1, 2)", "none[int, int]()", "pair[int, int, int](1, 2)")
	wantBodyFault(t, api.ErrPlace, "id[1](1)", "id[n](n)", "id[f](f)", "id[len](1)", "id[any](1)", "id[id](1)", "id[-1](1)", "id[p.x](1)", "id[s[0]](1)", "id[int8(1)](1)", "id[P{1, b}](p)", "id[true](b)", "id[func() { }](v)", "id[make([]int, 1)](s)", "pair[int, 1](1, 1)", "pair[n, int](1, 1)", "none[main]()", "id[int][int](1)", "x := id[int]", "x := id[[]int]", "v = none[int]", "go id[n](1)", "id[[]len](1)", "len[int8](s)", "print[int](1)", "int8[int](1)", "P[int](p)")
	wantBodyFault(t, api.ErrName, "id[R](1)", "id[[]R](1)", "id[chan z](1)", "none[z]()", "z[int](1)", "id[id2](1)")
	wantBodyFault(t, api.ErrConst, "id[int8](128)", "sum[uint8](1, 256)", "same[I](1, 128)", "pair[int, int8](1 << 63, 1)", "id[uint64](-1)")
}

func TestStarts(t *testing.T) {
	for _, word := range []string{"go ", "defer "} {
		wantBody(t, word+"g()", word+"f(1, b)", word+"v()", word+"w(i8)", word+"func() { }()", word+"func(x int) int { return x }(1)", word+"id(1)", word+"id[int8](1)", word+"ff.f(1)", word+"make([]func(), 1)[0]()", word+"main()", word+"h(w, cp)", word+"zero[T]()", word+"(<-make(chan func(), 1))()", "print := v; "+word+"print()", "int8 := w; "+word+"int8(1)", "len := func() { }; "+word+"len()", "close := g; recover := g; panic := g; "+word+"close(); "+word+"recover(); "+word+"panic()")
		wantBodyFault(t, api.ErrPlace, word+"print(1)", word+"len(s)", word+"panic(1)", word+"recover()", word+"close(c)", word+"(make)(s)", word+"int8(1)", word+"int(n)", word+"uint64(1)", word+"I(1)", word+"I(ii)", word+"bool(b)", word+"P(1)", word+"T(tt)", word+"any(1)")
		wantBodyFault(t, api.ErrType, word+"f(1)", word+"g(1)", word+"f(b, 1)", word+"w(n)", word+"v(1)", word+"func() { }(1)", word+"n()", word+"f(1, b)()", word+"same(i8, u8)", word+"ff.c()", word+"true()")
		wantBodyFault(t, api.ErrName, word+"z()", word+"f(z, b)", word+"ff.z()", word+"z.f()")
		wantBodyFault(t, api.ErrConst, word+"f(128, b)", word+"w(128)", word+"id[int8](128)")
	}
}
