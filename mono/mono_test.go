package mono_test

import (
	"fmt"
	"reflect"
	"regexp"
	"slices"
	"strings"
	"testing"

	"mullion/api"
	"mullion/check"
	"mullion/mono"
	"mullion/parse"
	"mullion/tree"
	"mullion/types"
)

// fine reads a program that has no fault.
func fine(t *testing.T, text string) api.Node {
	t.Helper()
	n, at, e := check.Source(text)
	if e != api.OK {
		t.Fatalf("error %d at %d of\n%.3000s", e, at, text)
	}
	return n
}

// told answers instances as they are told: names, and type arguments in brackets.
func told(t *testing.T, list []api.Inst) []string {
	t.Helper()
	var all []string
	for _, one := range list {
		var args []string
		for _, a := range one.Args {
			s, e := types.Text(a)
			if e != api.OK {
				t.Fatalf("a type argument of %s is not sound", one.Name)
			}
			args = append(args, s)
		}
		text := one.Name
		if len(args) > 0 {
			text += "[" + strings.Join(args, ", ") + "]"
		}
		all = append(all, text)
	}
	return all
}

// wantList asks that a program has these instances, and so many.
func wantList(t *testing.T, text string, want ...string) {
	t.Helper()
	n := fine(t, text)
	list, name, e := mono.Expand(n)
	if got := told(t, list); e != api.OK || name != "" || !slices.Equal(got, want) {
		t.Errorf("Expand = %q, %q, %d\nnot %q\nof %.1000s", got, name, e, want, text)
	}
	if many, e := mono.Count(n); many != len(want) || e != api.OK {
		t.Errorf("Count = %d, %d, not %d, of %.1000s", many, e, len(want), text)
	}
}

// wantDeep asks that a program has instances without an end, or too many, told with the name of this function.
func wantDeep(t *testing.T, text, want string) {
	t.Helper()
	n := fine(t, text)
	if list, name, e := mono.Expand(n); len(list) != 0 || name != want || e != api.ErrDeep {
		t.Errorf("Expand = %d instances, %q, %d, not %q, of %.1000s", len(list), name, e, want, text)
	}
	if many, e := mono.Count(n); many != 0 || e != api.ErrDeep {
		t.Errorf("Count = %d, %d of %.1000s", many, e, text)
	}
}

// wantForm asks that n is no program without a fault.
func wantForm(t *testing.T, n api.Node) {
	t.Helper()
	if list, name, e := mono.Expand(n); len(list) != 0 || name != "" || e != api.ErrForm {
		t.Errorf("Expand = %d instances, %q, %d of %.300q", len(list), name, e, fmt.Sprint(n))
	}
	if many, e := mono.Count(n); many != 0 || e != api.ErrForm {
		t.Errorf("Count = %d, %d of %.300q", many, e, fmt.Sprint(n))
	}
}

func TestExamples(t *testing.T) {
	wantList(t, "func id[T any](x T) T { return x }\nfunc main() { id(1); id(true); id[int8](2); id(3) }", "main", "id[int64]", "id[bool]", "id[int8]")
	wantDeep(t, "func f[T any](x T) { f(make([]T, 1)) }\nfunc main() { f(1) }", "f")
}

// placed is a block that names functions wherever an expression may stand, each of them by a number of its own. The letter tells what sort of function it is.
const placed = `
	x := i1() + i2() * -i3()
	var y int
	y = i4()
	s5()[i6()] = i7()
	q := p8()
	q.x = i9() + p10().x
	i11()
	<-c12()
	if b13() && !b14() { i15() } else if b16() == b17() { i18() } else { { i19() } }
	for b20() || b21() { i22(); break; i23(); continue }
	go v24(i25(), i26())
	defer v27(i28(), g29(i30()))
	go w31(i32())(i33())
	c34() <- <-c35()
	select {
	case z := <-c36():
		z = i37()
	case c38() <- i39():
		i40()
	case <-c41():
		i42()
	default:
		i43()
	}
	f := g44
	f = func(a int) int { i45(); return g46(a) + f(i47()) }
	f = w48(i49())
	w50(i51())(i52())
	y = s53()[i54()] << i55()
	q = P{i56(), g57}
	r := P{x, w58(y)}
	r.f(i59())
	p60().f(i61())
	func(a int) { v62(i63(), a) }(i64())
	s := make([]int, i65())
	k := make([]func(int) int, 1)
	k[i66()](i67())
	k[0] = g68
	l := make([]P, 2)
	l[i69()].x = i70()
	h := int8(i71())
	print(i72())
	print(b73())
	print(len(s74()))
	close(c75())
	s[0] = (i76())
	print(h)
	func() int { return i77() }()
	defer func() { recover(); go i78() }()
	panic(i79())
	i80()
`

// declared answers the functions that a block names, each named for its sort and by a number, declared from the last to the first, and their names in the order of the text.
func declared(block string) (string, []string) {
	sorts := map[byte]string{'i': "() int { return 1 }", 'b': "() bool { return true }", 'c': "() chan int { return make(chan int, 1) }", 's': "() []int { return make([]int, 1) }", 'p': "() P { var p P; return p }", 'g': "(a int) int { return a }", 'v': "(a int, b int) { }", 'w': "(a int) func(int) int { return func(b int) int { return a } }"}
	text := "type P struct { x int; f func(int) int }\n"
	names := regexp.MustCompile(`\b[a-z][0-9]+\b`).FindAllString(block, -1)
	for _, name := range slices.Backward(names) {
		text += "func " + name + sorts[name[0]] + "\n"
	}
	return text, names
}

// TestPlaces: a function is needed wherever it is named, in the order of the text.
func TestPlaces(t *testing.T) {
	text, names := declared(placed)
	if len(names) != 80 {
		t.Fatalf("%d functions", len(names))
	}
	wantList(t, text+"func main() {"+placed+"}", append([]string{"main"}, names...)...)
	wantList(t, "func main() { all(true) }\nfunc all[T any](t T) {"+placed+"}\n"+text, append([]string{"main", "all[bool]"}, names...)...)
	wantList(t, text+"func main() { f := func() { func() {"+placed+"}() } }", append([]string{"main"}, names...)...)
	// Each of them once, where it stands first.
	wantList(t, text+"func main() { i80(); {"+placed+"}; {"+placed+"}; i1(); go v24(i3(), i2()) }", append([]string{"main", "i80"}, names[:79]...)...)
}

// TestValues: a function as a value is needed as one that is called.
func TestValues(t *testing.T) {
	const f = "func f(x int) int { return x }\nfunc g(x int) int { return f(x) }\nfunc h(f func(int) int) func(int) int { return f }\n"
	for _, s := range []string{"x := f", "f(1)", "var x func(int) int; x = f", "x := P{f}", "c <- f", "s[0] = f", "return; f(1)", "if false { f(1) }", "for false { f(1) }", "x := func() func(int) int { return f }", "x := func() int { return f(2) }", "select { case c <- f: }"} {
		for _, ahead := range []string{"", "{ f := 1; f = f }; "} {
			wantList(t, "type P struct { f func(int) int }\n"+f+"func main() { c := make(chan func(int) int, 1); s := make([]func(int) int, 1); "+ahead+s+" }", "main", "f")
		}
	}
	wantList(t, f+"func main() { x := h(g)(h(f)(1)) }", "main", "h", "g", "f")
	wantList(t, f+"func main() { x := h(h(h(f)))(h(g)(1)) }", "main", "h", "f", "g")
	wantList(t, "func apply[T any, U any](x T, f func(T) U) U { return f(x) }\nfunc n(x int8) bool { return true }\nfunc main() { y := int8(1); apply(y, n); apply(n(y), func(b bool) int { main(); return 1 }) }", "main", "apply[int8, bool]", "n", "apply[bool, int64]")
}

// TestHidden: what only has a function's name is none.
func TestHidden(t *testing.T) {
	const f = "func f() { }\nfunc g() { }\n"
	for _, s := range []string{
		"f := 1; f = f + f", "f := func() { }; f(); x := f; go f(); defer f()", "var f bool; print(f)", "x := func(f int) int { return f }", "x := func(f func()) { f() }", "x := P{1}; x.f = x.f", "c := make(chan func(), 1); select { case f := <-c: f() }",
		"f := make([]func(), 1); f[0]()", "f := P{1}; f.f = 2", "g := func() { }; f := g; f()", "f := 1; { f = 2; x := func() int { return f } }", "f := make(chan int, 1); f <- <-f; close(f)",
	} {
		wantList(t, "type P struct { f int }\n"+f+"func main() { "+s+" }", "main")
	}
	wantList(t, f+"func main() { { f := 1; f = f }; f() }", "main", "f")
	wantList(t, f+"func main() { f(); f := g; f() }", "main", "f", "g")
	wantList(t, f+"func main() { x := func(f int) { }; f(); g() }", "main", "f", "g")
	wantList(t, "func f() int { return 1 }\nfunc main() { f := f(); print(f) }", "main", "f")
	wantList(t, "func f() int { return 1 }\nfunc main() { f := func() int { return f() }; f() }", "main", "f")
	wantList(t, "func f() int { return 1 }\nfunc main() { c := make(chan int, 1); select { case f := <-c: print(f)\ncase c <- f(): \ndefault: f() } }", "main", "f")
	wantList(t, f+"func main() { c := make(chan int, 1); select { case f := <-c: print(f)\ncase <-c: g() } }", "main", "g")
	wantList(t, f+"func h(f func(), g int) { f() }\nfunc main() { h(g, 1) }", "main", "h", "g")
	wantList(t, "func main() { main := func() { }; main() }", "main")
	// A type parameter may have a function's name, and stands for a type.
	wantList(t, f+"func h[f any](x f) { y := make([]f, 1); y[0] = x; g() }\nfunc main() { h(true) }", "main", "h[bool]", "g")
	wantList(t, f+"func h[f integer](x int) f { return f(x) }\nfunc main() { h[uint8](1) }", "main", "h[uint8]")
	wantList(t, f+"func k[T any]() { }\nfunc h[f any]() { k[f]() }\nfunc main() { h[int32]() }", "main", "h[int32]", "k[int32]")
}

// TestOrder: instance by instance, those that each needs.
func TestOrder(t *testing.T) {
	wantList(t, "func d() { }\nfunc c() { main(); a() }\nfunc b() { d(); c() }\nfunc a() { c() }\nfunc main() { a(); b() }", "main", "a", "b", "c", "d")
	wantList(t, "func a() { b() }\nfunc b() { c() }\nfunc c() { d() }\nfunc d() { a() }\nfunc main() { c(); a() }", "main", "c", "a", "d", "b")
	wantList(t, "func main() { main() }", "main")
	wantList(t, "func a() { main(); a() }\nfunc main() { x := main; a() }", "main", "a")
	wantList(t, "func main() { }", "main")
	wantList(t, "func main() { }\nfunc main2() { }\nfunc a() { main2() }", "main")
	// The function that is called stands ahead of its arguments, also if these tell what its type parameters stand for.
	const more = "func id[T any](x T) T { return x }\nfunc two[T any, U any](x T, y U) T { return x }\nfunc zero[T any]() T { var x T; return x }\n"
	wantList(t, more+"func main() { two(two(true, 1), id(zero[int8]())) }", "main", "two[bool, int8]", "two[bool, int64]", "id[int8]", "zero[int8]")
	wantList(t, more+"func main() { id(two(id(true), id(1))) }", "main", "id[bool]", "two[bool, int64]", "id[int64]")
	wantList(t, more+"func main() { id(func() bool { id(1); return true })() }", "main", "id[func() bool]", "id[int64]")
	wantList(t, more+"func f() func(int8) bool { panic(1) }\nfunc g() int8 { return 1 }\nfunc main() { id(f())(g()) }", "main", "id[func(int8) bool]", "f", "g")
	wantList(t, more+"func f[T any](x T) { id(x); two(x, true) }\nfunc main() { f(1); id(true); f(true) }", "main", "f[int64]", "id[bool]", "f[bool]", "id[int64]", "two[int64, bool]", "two[bool, bool]")
}

// TestTypeArguments: instances are told apart by their types, and by nothing else.
func TestTypeArguments(t *testing.T) {
	const ahead = "type P struct { x int }\ntype Q struct { x int }\nfunc n[T any]() { }\nfunc v[T any](x T) { }\nfunc b[T any, U any]() { }\n"
	list := []string{"bool", "int8", "uint8", "int32", "uint32", "int64", "uint64", "P", "Q", "[]P", "chan P", "[]chan P", "chan []P", "[][]P", "[]func()", "[]func() P", "[]func(P)", "[]func(P) P", "[]func(P, P) P", "[]func(P, P)", "chan func(P, Q)", "chan func(Q, P)", "chan func(func())", "chan func() func()"}
	text, want := "", []string{"main"}
	for _, s := range list {
		text += "n[" + s + "](); "
		want = append(want, "n["+s+"]")
	}
	wantList(t, ahead+"func main() { "+text+text+" }", want...)
	text, want = "", []string{"main"}
	for _, s := range append(list, "func()", "func() P", "func(P)", "func(P) P", "func(int64, P) bool") {
		text += "{ var x " + s + "; v(x) }; "
		want = append(want, "v["+s+"]")
	}
	wantList(t, ahead+"func main() { "+text+text+" }", want...)
	wantList(t, ahead+"func main() { b[P, Q](); b[Q, P](); b[P, P](); b[P, Q](); b[[]P, P](); b[P, []P]() }", "main", "b[P, Q]", "b[Q, P]", "b[P, P]", "b[[]P, P]", "b[P, []P]")
	wantList(t, ahead+"func main() { n[int](); n[int64](); v(1); v[int](2); n[[]int](); n[[]int64](); b[int, int64](); b[int64, int]() }", "main", "n[int64]", "v[int64]", "n[[]int64]", "b[int64, int64]")
	wantList(t, "func a[T comparable](x T) { }\nfunc b[T integer](x T) { }\nfunc main() { a(true); b(1); a(2); x := uint8(3); b(x); b(4 + x); a(1 == 2) }", "main", "a[bool]", "b[int64]", "a[int64]", "b[uint8]")
	wantList(t, "func a[T any, U any](f func(T) U, x []T) { }\nfunc main() { var f func(chan bool) func(); var x []chan bool; a(f, x) }", "main", "a[chan bool, func()]")
	names, args := "", ""
	for i := range api.MaxParams {
		names += fmt.Sprintf(", T%d any", i)
		args += ", " + list[i]
	}
	most := "type P struct { }\ntype Q struct { }\nfunc f[" + names[2:] + "]() { }\n"
	wantList(t, most+"func main() { f["+args[2:]+"]() }", "main", "f["+args[2:]+"]")
	other := strings.TrimSuffix(args, "P") + "Q"
	wantList(t, most+"func main() { f["+args[2:]+"](); f["+other[2:]+"](); f["+args[2:]+"]() }", "main", "f["+args[2:]+"]", "f["+other[2:]+"]")
}

// TestOwnParameters: an instance's type parameters stand for its own arguments.
func TestOwnParameters(t *testing.T) {
	const swap = "func f[T any, U any](x T, y U) { g[U, T](); f(y, x) }\nfunc g[T any, U any]() { h[chan U, []T]() }\nfunc h[U any, T any]() { }\n"
	wantList(t, swap+"func main() { f(1, true) }", "main", "f[int64, bool]", "g[bool, int64]", "f[bool, int64]", "h[chan int64, []bool]", "g[int64, bool]", "h[chan bool, []int64]")
	wantList(t, swap+"func main() { f(true, false) }", "main", "f[bool, bool]", "g[bool, bool]", "h[chan bool, []bool]")
	wantList(t, "func f[T any, U any, V any]() { f[U, V, T]() }\nfunc main() { f[bool, bool, int8](); f[int, int, int]() }", "main", "f[bool, bool, int8]", "f[int64, int64, int64]", "f[bool, int8, bool]", "f[int8, bool, bool]")
	wantList(t, "func f[T any](x T) { g(func(y T) []T { return make([]T, 1) }) }\nfunc g[U any](x U) { }\nfunc main() { f(1); f(true); f(make(chan int8, 1)) }", "main", "f[int64]", "f[bool]", "f[chan int8]", "g[func(int64) []int64]", "g[func(bool) []bool]", "g[func(chan int8) []chan int8]")
	wantList(t, "type P struct { T int }\nfunc f[T any, U any]() { g[P](); g[U](); g[int]() }\nfunc g[T any]() { k() }\nfunc k() { }\nfunc main() { f[bool, P]() }", "main", "f[bool, P]", "g[P]", "g[int64]", "k")
	wantList(t, "func sum[T integer](a T, b T) T { if a == 0 { return b }; return sum(a - 1, b + T(1)) }\nfunc main() { print(sum(1, 2)); x := uint8(3); print(sum(x, 4)); print(sum[int32](5, 6)) }", "main", "sum[int64]", "sum[uint8]", "sum[int32]")
	// A constant is an int64, though it stands in an instance of another type.
	wantList(t, "func f[T integer](x T) { g(1); g(x); g(x + 1); g(x == 1); g(1 << x) }\nfunc g[T any](x T) { }\nfunc main() { f[int8](1) }", "main", "f[int8]", "g[int64]", "g[int8]", "g[bool]")
}

// TestSame: with other type parameters' names, places and an order of declarations there are the same instances.
func TestSame(t *testing.T) {
	for _, s := range []string{
		"func f[T any, U any](x T, y U) { g[U](y); g(x) }\nfunc g[T any](x T) { }\nfunc main() { f(1, true) }",
		"func main() { f(1, true) }\nfunc g[U any](x U) { }\nfunc f[V any, T any](x V, y T) { g[T](y); g(x) }",
	} {
		wantList(t, s, "main", "f[int64, bool]", "g[bool]", "g[int64]")
		n := fine(t, s)
		for i, p := range pointers(&n) {
			p.At = []int{0, -1, 7, 1<<62 + i}[i%4]
		}
		if list, _, e := mono.Expand(n); e != api.OK || !slices.Equal(told(t, list), []string{"main", "f[int64, bool]", "g[bool]", "g[int64]"}) {
			t.Errorf("%d, %v", e, list)
		}
	}
}

// pointers answers all nodes of n.
func pointers(n *api.Node) []*api.Node {
	all := []*api.Node{n}
	for i := range n.List {
		all = append(all, pointers(&n.List[i])...)
	}
	return all
}

// TestFaults: no program with a fault has instances.
func TestFaults(t *testing.T) {
	wantForm(t, api.Node{})
	wantForm(t, api.Node{Kind: 1})
	wantForm(t, api.Node{Kind: 1, List: []api.Node{{Kind: 3, Text: "main"}}})
	wantForm(t, api.Node{Kind: -1, Text: "\xff", N: 1 << 63, At: -1 << 63, List: []api.Node{{}, {}}})
	n := fine(t, "func main() { print(1) }")
	for i := range pointers(&n) {
		c := fine(t, "func main() { print(1) }")
		pointers(&c)[i].Kind = 99
		wantForm(t, c)
	}
	wantForm(t, n.List[0])
	wantForm(t, api.Node{Kind: 1, List: []api.Node{n.List[0], n.List[0]}})
	deep := n
	for range 1 << 16 {
		deep = api.Node{Kind: 1, List: []api.Node{deep}}
	}
	wantForm(t, deep)
	for _, s := range []string{"", "func f() { }", "func main() { f() }", "func main() { x := 1; x = true }", "func main(x int) { }", "func main[T any]() { }", "func f() int { }\nfunc main() { }", "func f[T any]() { }\nfunc main() { f() }", "func f[T any]() { }\nfunc main() { g := f }", "func f[T integer](x T) { }\nfunc main() { f(true) }", "func f[T any](x T) { f(make([]T, 1)) }\nfunc main() { f(1); g() }", "func main() { }\nfunc main() { }"} {
		n, _, e := parse.Parse(s)
		if e != api.OK {
			t.Fatalf("%d of %s", e, s)
		}
		wantForm(t, n)
	}
}

// TestWithoutParameters: there are as many instances as functions that main needs.
func TestWithoutParameters(t *testing.T) {
	text, names := declared(placed)
	n := fine(t, text+"func main() {"+placed+"}\nfunc f() { i1(); g() }\nfunc g() { f() }")
	reached := 1
	for _, d := range n.List {
		if d.Text == "main" {
			for _, name := range tree.Names(d) {
				if slices.Contains(names, name) {
					reached++
				}
			}
		}
	}
	if many, e := mono.Count(n); many != reached || e != api.OK {
		t.Errorf("Count = %d, %d, not %d", many, e, reached)
	}
}

// TestNotNeeded: functions that nobody needs change nothing.
func TestNotNeeded(t *testing.T) {
	const begin = "func id[T any](x T) T { return x }\nfunc main() { print(id(1)); id(f) }\nfunc f() { id(true) }\n"
	want := []string{"main", "id[int64]", "id[func()]", "f", "id[bool]"}
	wantList(t, begin, want...)
	for _, s := range []string{
		"func g() { id(make([]int, 1)); main(); g() }", "func g[T any](x T) { g(make([]T, 1)) }", "func g[T any](x T) { g(make([]T, 1)) }\nfunc h() { g(1) }", "func g[T any](x T) { h(x) }\nfunc h[T any](x T) { g(make(chan T, 1)) }", "type P struct { id int; f bool }",
	} {
		wantList(t, begin+s, want...)
		wantList(t, s+"\n"+begin, want...)
	}
	for _, s := range []string{begin, begin + "func g[T any](x T) { g(make([]T, 1)) }"} {
		n, m := fine(t, s), fine(t, s)
		slices.Reverse(m.List)
		a, _, _ := mono.Expand(n)
		b, _, _ := mono.Expand(m)
		if !reflect.DeepEqual(a, b) {
			t.Errorf("the order of declarations is told: %q, %q", told(t, a), told(t, b))
		}
	}
}
