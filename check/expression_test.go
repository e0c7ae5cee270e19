package check_test

import (
	"strings"
	"testing"

	"mullion/api"
)

// TestConstants: what constants are worked out of, and what type they take.
func TestConstants(t *testing.T) {
	wantBody(t,
		"i8 = 127; i8 = -128; u8 = 255; u8 = 0; i32 = 2147483647; i32 = -2147483648; u32 = 4294967295; i64 = 9223372036854775807; i64 = -9223372036854775808; u64 = 18446744073709551615",
		"i8 = 300 - 200; i8 = 1000 / 10; i8 = 1000 % 300; i8 = 5 * 25; i8 = 1 << 6; i8 = 1024 >> 4; i8 = 0xff & 0x0f; i8 = 1 | 2; i8 = 255 ^ 254; i8 = 255 &^ 254; i8 = -(-5); i8 = ^127; i8 = -7 / 2; i8 = -1 >> 100",
		"u64 = 1 << 63; u64 = (1 << 63) + ((1 << 63) - 1); i64 = -(1 << 63); i64 = (1 << 63) - 1", "u64 = 0 << 1000; i64 = 1 >> 1000",
		"x := 1; n = x", "x := -5; i64 = x", "x := 9223372036854775807", "x := -9223372036854775808", "x := 1 << 62; n = x",
		"i8 = i8 + 127; i8 = -128 - i8; u8 = 255 & u8; b = i8 < 127; b = 255 == u8; u64 = u64 ^ 18446744073709551615; ii = ii + 127; ii = 0 * ii; b = ii != 127",
		"ii = 0; ii = 127; ii = I(127); ii = sum(ii, 127)", "f(127, b); f(-128, b)", "q.i = 5; p.x = 1 << 40; q = Q{p, ss[0], 127}; p = P{-9223372036854775808, b}", "s[0] = 127; i8 = s[9223372036854775807]; i8 = s[-1]", "c <- 127; select { case c <- -128: }", "s = make([]int8, 9223372036854775807); s = make([]int8, -1)",
		"i8 = i8 << 200; i8 = i8 >> 9223372036854775807; i8 = i8 << -1; ii = ii << 500", "n = 1 << n; n = 1 << u8; n = -1 >> ii; i64 = 9223372036854775807 << i8", "print(9223372036854775807); print(-9223372036854775808); panic(-1); panic(9223372036854775807)",
		"b = 1 < 2; b = 9223372036854775807 == -9223372036854775808; x := 1 == 2; b = x", "i8 = int8(-128); u8 = uint8(255); n = int(5); n = int64(-5); u32 = uint32(4294967295); i32 = int32(-1); u64 = uint64(1 << 63); i64 = int64(u64)",
		"x := i8 / 0; i8 = i8 % 0",
	)
	wantBodyFault(t, api.ErrConst,
		"i8 = 128", "i8 = -129", "u8 = 256", "u8 = -1", "i32 = 2147483648", "i32 = -2147483649", "u32 = 4294967296", "u32 = -1", "i64 = 9223372036854775808", "n = 9223372036854775808", "i64 = 18446744073709551615", "u64 = -1",
		"x := 9223372036854775808", "x := 1 << 63", "x := 1 << 64", "x := 18446744073709551615 + 1", "x := -9223372036854775808 - 1", "x := 1 / 0", "x := 1 % 0", "x := 0 / 0", "x := 1 << -1", "x := 1 >> -1", "x := -1 & 1", "x := 1 | -1", "x := -1 ^ 1", "x := 1 &^ -1", "x := -9223372036854775809", "x := ^9223372036854775808", "x := -18446744073709551615", "x := (1 << 63) * 2 / 4", "x := 1 / (5 - 5)", "i8 = 1 / 0", "b = 1 / 0 == 1",
		"i8 = i8 + 128", "i8 = 128 + i8", "u8 = u8 - -1", "b = i8 < 128", "b = 256 == u8", "b = u64 > -1", "ii = ii + 128", "ii = -1 * ii", "b = ii == 128", "ii = 128", "ii = -1", "ii = I(128)", "ii = I(-1)", "ii = sum(ii, 128)", "f(128, b)", "f(-129, b)", "q.i = 128", "p.x = 9223372036854775808", "q = Q{p, ss[0], 128}", "p = P{9223372036854775808, b}",
		"s[0] = 128", "i8 = s[9223372036854775808]", "s[9223372036854775808] = 1", "c <- 128", "select { case c <- -129: }", "s = make([]int8, 9223372036854775808)", "c = make(chan int8, 1 << 63)", "i8 = i8 << 9223372036854775808", "n = 9223372036854775808 << n", "n = (1 << 63) >> n", "print(9223372036854775808)", "panic(9223372036854775808)", "b = 9223372036854775808 == 9223372036854775808", "b = 1 < 9223372036854775808",
		"x := int8(128)", "x := uint8(-1)", "x := uint8(256)", "x := int(9223372036854775808)", "x := int64(9223372036854775808)", "x := uint64(-1)", "x := uint32(4294967296)", "x := int32(2147483648)", "x := id(9223372036854775808)", "x := same(n, 9223372036854775808)", "x := same(i8, 128)", "x := same(128, i8)", "x := sum[uint8](1, 256)", "x := sum[I](1, 128)", "w(128)",
	)
	wantBodyFault(t, api.ErrType,
		"b = 1", "p = 1", "s = 0", "c = 0", "v = 0", "tt = 1", "cc = 1", "e = 0", "b = b == 1", "b = 1 != b", "b = c == 0", "b = p == 1", "b = cc == 1", "b = 1 == tt", "b = 1 && b", "b = b || 0", "b = !1", "b = 1 && 1", "f(1, 1)", "p = P{1, 1}", "cp <- 1", "if 1 { }", "for 1 { }", "1[0] = 1", "x := 1[0]", "x := (1).x", "(1)()", "<-1", "1 <- 1", "close(1)", "print(len(1))", "x := b + 1", "x := 1 + p", "x := tt + 1", "x := cc << 1", "x := 1 << b", "x := 1 << tt", "ss[0] = 1", "ff.f = 1", "x := same(b, 1)", "x := first(s, b)", "x := pair[bool, bool](1, b)",
	)
	// In a function with another result.
	wantFine(t, "func f() int8 { return -128 }\nfunc g() uint64 { return 18446744073709551615 }\nfunc h[T integer]() T { return 127 }\nfunc main() { k := func() uint8 { return 255 } }")
	wantFault(t, api.ErrConst, "func f() int8 { return 128 }\nfunc main() { }", "func h[T integer]() T { return 128 }\nfunc main() { }", "func main() { k := func() uint8 { return 256 } }", "func h[T integer]() T { return -1 }\nfunc main() { }")
	wantFault(t, api.ErrType, "func f() bool { return 1 }\nfunc main() { }", "func f[T any]() T { return 1 }\nfunc main() { }", "func f[T comparable]() T { return 0 }\nfunc main() { }", "func f() []int { return 0 }\nfunc main() { }")
}

// operands: the variables of wantBody, one of each type, and what may be done with them.
var operands = []struct {
	name                string
	isWhole, isCompared bool
}{
	{"i8", true, true}, {"u8", true, true}, {"i32", true, true}, {"u32", true, true}, {"n", true, true}, {"u64", true, true}, {"ii", true, true},
	{"b", false, true}, {"e", false, true}, {"p", false, true}, {"c", false, true}, {"cp", false, true}, {"cc", false, true},
	{"tt", false, false}, {"q", false, false}, {"ff", false, false}, {"s", false, false}, {"ss", false, false}, {"st", false, false}, {"v", false, false}, {"w", false, false},
}

func TestOperatorsOfTwo(t *testing.T) {
	want := func(isFine bool, s string) {
		t.Helper()
		if isFine {
			wantBody(t, s)
		} else {
			wantBodyFault(t, api.ErrType, s)
		}
	}
	for _, x := range operands {
		for _, y := range operands {
			isOne := x.name == y.name
			for _, op := range strings.Fields("+ - * / % & | ^ &^") {
				want(isOne && x.isWhole, x.name+" = "+x.name+" "+op+" "+y.name)
			}
			for _, op := range strings.Fields("<< >>") {
				want(x.isWhole && y.isWhole, x.name+" = "+x.name+" "+op+" "+y.name)
			}
			for _, op := range strings.Fields("< <= > >=") {
				want(isOne && x.isWhole, "b = "+x.name+" "+op+" "+y.name)
			}
			for _, op := range strings.Fields("== !=") {
				want(isOne && x.isCompared, "b = "+x.name+" "+op+" "+y.name)
			}
			for _, op := range strings.Fields("&& ||") {
				want(isOne && x.name == "b", "b = "+x.name+" "+op+" "+y.name)
			}
		}
		for _, op := range strings.Fields("+ - * / % & | ^ &^ << >>") {
			want(x.isWhole, x.name+" = "+x.name+" "+op+" 5")
			want(x.isWhole && (op != "<<" && op != ">>" || x.name == "n"), x.name+" = 5 "+op+" "+x.name)
		}
		for _, op := range strings.Fields("== != < <= > >=") {
			want(x.isWhole, "b = "+x.name+" "+op+" 5")
			want(x.isWhole, "b = 5 "+op+" "+x.name)
		}
		// No operator has nothing as an operand.
		for _, op := range strings.Fields("+ &^ << >> == != < >= && ||") {
			want(false, "x := "+x.name+" "+op+" g()")
			want(false, "x := g() "+op+" "+x.name)
		}
		want(x.isWhole, x.name+" = -"+x.name)
		want(x.isWhole, x.name+" = ^"+x.name)
		want(x.name == "b", x.name+" = !"+x.name)
	}
	wantBodyFault(t, api.ErrType, "x := g() == g()", "x := -g()", "x := ^g()", "x := !g()", "x := 1 + g()", "x := g() << 1", "x := g() == 1", "x := 1 == g()", "b = i8 + i8", "i8 = i8 < i8", "n = b && b", "u8 = 1 << i8", "i8 = !b", "b = -i8", "x := f == f", "x := w == w", "x := main == main")
	wantBody(t, "b = (1 < 2) == (i8 < 3) && !(p == P{1, b}) || cc != cc", "b = true && false || b", "b = true == b", "b = e == E{}", "b = c == make(chan int8, 0)", "n = n << i8 >> u64 << ii", "ii = ii &^ ii << n")
}

func TestNames(t *testing.T) {
	wantBody(t, "x := f; i8 = x(i8, b)", "v = g; v = main", "x := h; p = x(w, cp)", "x := g; go x(); defer x()", "h(func(x int8) bool { return b }, cp)", "x := i8; x = i8", "x := func() { g() }; x()")
	wantBodyFault(t, api.ErrPlace, "x := id", "x := P", "x := int8", "x := T", "x := I", "x := len", "x := print", "x := panic", "x := recover", "x := close", "x := make", "x := any", "x := comparable", "x := integer", "x := bool", "x := int", "w = id", "f(id, b)", "x := -P", "b = P == P", "x := P.x", "x := id[int8]", "x := len[0]", "<-int", "P.x = 1", "f = f", "g = v", "f.x = 1", "int8 = 1", "len = 1", "T = tt", "id = 1", "id[int] = 1", "I[0] = 1", "x := id.x")
	wantBodyFault(t, api.ErrName, "x := z", "v = z", "x := nil", "f(z, b)", "z = 1", "x := z.x", "x := z[0]", "x := z[int](1)", "x := test2", "x := iota")
	wantBodyFault(t, api.ErrType, "w = f", "v = f", "w = g", "v = h", "f(f, b)", "x := f[0]", "x := f.a", "x := f[int8]", "x := g[int]")
}

func TestFields(t *testing.T) {
	wantBody(t, "n = p.x; b = p.b; p = q.p; n = q.p.x; n = q.s[0].x; b = ss[0][1].b; n = P{1, b}.x; n = h(w, cp).x; n = (<-cp).x; b = ff.f(1); i8 = <-ff.c", "p.x = 1; q.p.x = 2; q.s[0].x = 3; ss[0][0].b = b; q.p = p; q.s = ss[0]; ff.f = w")
	wantBodyFault(t, api.ErrName, "n = p.y", "n = q.x", "n = p.P", "p.z = 1", "n = e.x", "q.p.p = p", "b = p.x1")
	wantBodyFault(t, api.ErrType, "n = s.x", "n = n.x", "n = tt.x", "n = c.x", "n = w.x", "n = g().x", "n = p.x.x", "n = (p == p).x", "b = p.x", "n = p.b", "s.x = 1", "tt.x = 1", "p.b = 1", "p.x = b", "i8 = p.x", "q.p.x = i8")
	wantBodyFault(t, api.ErrPlace, "h(w, cp).x = 1", "P{1, b}.x = 1", "(<-cp).x = 1", "(-n).x = 1", "Q{p, q.s, 1}.p.x = 1", "f(1, b).x = 1", "make([]P, 1).x = 1", "func() P { return p }().x = 1", "(n + n).x = 1", "true.x = 1", "(5).x = 1")
}

func TestItems(t *testing.T) {
	for _, index := range []string{"i8", "u8", "i32", "u32", "i64", "u64", "n", "ii", "0", "-1", "i8 + 1", "len(s)", "int8(5)", "s[0]"} {
		wantBody(t, "i8 = s["+index+"]", "s["+index+"] = i8", "ss["+index+"]["+index+"].x = 1", "tt = st["+index+"]")
	}
	for _, index := range []string{"b", "p", "tt", "cc", "c", "s", "w", "g()", "1 == 1", "E{}", "func() { }"} {
		wantBodyFault(t, api.ErrType, "i8 = s["+index+"]", "s["+index+"] = i8")
	}
	wantBody(t, "f := func() []int8 { return s }; f()[0] = 1; i8 = f()[0]; make([]P, 1)[0].x = 1; q.s[0] = p; (<-make(chan []int8, 1))[0] = 1", "fs := make([]func(int8) bool, 2); b = fs[1](5); fs[0] = w")
	wantBodyFault(t, api.ErrType, "x := p[0]", "x := n[0]", "x := c[0]", "x := tt[0]", "x := w[0]", "x := g()[0]", "x := f(1, b)[0]", "p[0] = 1", "x := s[0][0]", "s[0] = b", "s[0] = n", "st[0] = i8", "b = s[0]")
	wantBodyFault(t, api.ErrPlace, "x := s[0, 1]", "x := s[[]int]", "x := s[chan int]", "s[0, 1] = 1", "x := s[[]int8, 1]", "s[[]int8] = 1", "x := s[int]", "x := s[P]", "x := s[len]", "s[0, 1](2)", "x := s[[]int8](2)")
}

func TestLiterals(t *testing.T) {
	wantBody(t, "e = E{}", "p = P{1, true}; p = P{n, b}; p = P{n << 2, n == 1}", "q = Q{P{1, b}, ss[1], 5}; q = Q{p, make([]P, 2), i8}", "ff = F{w, c}; ff = F{func(x int8) bool { return b }, make(chan int8, 0)}", "x := E{}; x = e", "b = P{1, b} == P{2, b}")
	wantBodyFault(t, api.ErrType, "p = P{}", "p = P{1}", "p = P{1, b, 2}", "e = E{1}", "p = P{b, 1}", "p = P{i8, b}", "p = P{1, 1}", "q = Q{p, q.s, n}", "q = Q{p, p, 1}", "p = P{g(), b}", "p = E{}", "p = Q{p, q.s, 1}", "ff = F{f, c}", "e = P{1, b}")
	wantBodyFault(t, api.ErrPlace, "x := T{}", "x := int{}", "x := f{}", "x := len{}", "x := any{}", "x := n{}", "x := I{1}", "x := p{1, b}")
	wantBodyFault(t, api.ErrName, "x := R{}", "x := z{1}", "p = P{z, b}")
}

func TestFuncLiterals(t *testing.T) {
	wantBody(t,
		"w = func(x int8) bool { return x < 5 && b }", "v = func() { n = n + 1; s[0] = i8; p.x = 2 }", "x := func() { }; v = x", "b = func(x int8) bool { return w(x) }(i8)", "func(x T) T { return x }(tt)", "x := func(y []T) func(T) C { return func(z T) C { return cc } }; cc = x(st)(tt)", "x := func() int { return func() int { return n }() }; n = x()",
		"f := func(x int, y bool) { }; f(1, b)", "x := func(a P) P { a.x = 1; return a }; p = x(p)", "w = func(n int8) bool { n = 1; return b }; n = 1 << 40", "for true { v = func() { for true { break } }; break }", "x := func() int8 { panic(1) }", "x := func() { return }; x()",
	)
	wantBodyFault(t, api.ErrType, "w = func(x int) bool { return b }", "w = func(x int8) { }", "w = func() bool { return b }", "w = func(x int8) int8 { return x }", "v = func() int { return 1 }", "x := func() int { return b }", "x := func() { return 1 }", "x := func() int { return }", "x := func(a int) int { return a }(b)", "func(x T) { }(cc)", "x := func() { }()", "func() { }(1)", "func(x int) { }()", "w = func(x int8) bool { return x }", "n = func() int { return 1 }")
	wantBodyFault(t, api.ErrEnd, "x := func() int { }", "w = func(x int8) bool { if b { return b } }", "x := func() int { y := func() int { return 1 }; y() }")
	wantBodyFault(t, api.ErrPlace, "for true { v = func() { break } }", "for true { v = func() { continue } }", "for b { func() { if b { break } }() }")
	wantBodyFault(t, api.ErrName, "w = func(x int8) bool { return y }", "x := func() int { return x() }", "v = func() { z = 1 }")
}

func TestChannels(t *testing.T) {
	wantBody(t, "i8 = <-c", "p = <-cp", "n = (<-cp).x", "x := <-c; i8 = x", "<-c; <-cp", "cc2 := make(chan chan int8, 1); i8 = <-<-cc2; cc2 <- c", "f(<-c, b)", "c <- i8; cp <- p; c <- <-c; c <- 5", "close(c); close(cp); close(ff.c)", "ct := make(chan T, 0); ct <- tt; tt = <-ct; ci := make(chan I, 1); ci <- 5")
	wantBodyFault(t, api.ErrType, "<-n", "<-s", "<-tt", "<-w", "<-g()", "<-p", "x := <-<-c", "b = <-c", "n = <-c", "s <- 1", "p <- p", "c <- b", "c <- n", "c <- p", "cp <- i8", "cp <- n", "w <- 1", "tt <- tt", "c <- g()", "g() <- 1", "close(s)", "close(n)", "close(w)", "close(tt)", "close(g())", "close()", "close(c, c)", "x := close(c)")
}

func TestMakes(t *testing.T) {
	wantBody(t, "s = make([]int8, 5)", "c = make(chan int8, n)", "x := make([]T, ii); st = x", "ss = make([][]P, u8)", "x := make([]func(T) C, i8)", "x := make(chan func(), u64)", "s = make([]int8, len(s))", "x := make([]int, 0); x[0] = n", "s = make([]int8, n)")
	wantBodyFault(t, api.ErrType, "x := make(P, 1)", "x := make(int, 1)", "x := make(T, 1)", "x := make(func(), 1)", "x := make([]int, b)", "x := make([]int, p)", "x := make([]int, tt)", "x := make([]int, g())", "x := make(chan int, c)", "s = make([]int, 1)", "s = make(chan int8, 1)", "c = make(chan int, 1)", "c = make([]int8, 1)")
	// A variable of that name hides no make(T, n), which is no call of a name.
	wantBody(t, "make := 1; s = make([]int8, make)")
}
