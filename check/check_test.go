package check_test

import (
	"math/rand"
	"reflect"
	"slices"
	"strings"
	"testing"

	"mullion/api"
	"mullion/check"
	"mullion/parse"
	"mullion/print"
	"mullion/tree"
)

// read reads a program.
func read(t *testing.T, s string) api.Node {
	t.Helper()
	n, at, e := parse.Parse(s)
	if e != api.OK {
		t.Fatalf("%d at %d of %.300s", e, at, s)
	}
	return n
}

// wantFine asks that programs have no fault, and that both calls answer so.
func wantFine(t *testing.T, texts ...string) {
	t.Helper()
	for _, s := range texts {
		n := read(t, s)
		if _, at, e := check.Program(n); e != api.OK || at != 0 {
			t.Errorf("Program = %d at %d of %.300s", e, at, s)
		}
		if m, at, e := check.Source(s); e != api.OK || at != 0 || !reflect.DeepEqual(m, n) {
			t.Errorf("Source = %d at %d of %.300s", e, at, s)
		}
	}
}

// wantFault asks that each program has a fault, told with this error, and the place of a node.
func wantFault(t *testing.T, want api.Errno, texts ...string) {
	t.Helper()
	for _, s := range texts {
		n := read(t, s)
		sigs, at, e := check.Program(n)
		isPlace := slices.ContainsFunc(walk(n), func(p api.Node) bool { return p.At == at })
		if e != want || !isPlace || len(sigs) > 0 {
			t.Errorf("Program = %d at %d, not %d, of %.300s", e, at, want, s)
		}
		m, place, e := check.Source(s)
		if e != want || place != at || !tree.Same(m, api.Node{}) || m.At != 0 {
			t.Errorf("Source = %d at %d, not %d, of %.300s", e, place, want, s)
		}
	}
}

// ahead stands ahead of the statements of wantBody: some declarations, and a variable of each sort.
const ahead = `
type E struct { }
type P struct { x int; b bool }
type Q struct { p P; s []P; i int8 }
type F struct { f func(int8) bool; c chan int8 }
func g() { }
func f(a int8, b bool) int8 { return a }
func h(f func(int8) bool, c chan P) P { return <-c }
func id[T any](x T) T { return x }
func pair[T any, U comparable](x T, y U) U { return y }
func same[T any](x T, y T) T { return x }
func sum[T integer](a T, b T) T { return a + b }
func first[T any](s []T, x T) T { return s[0] }
func apply[T any, U any](x T, f func(T) U) U { return f(x) }
func none[T any]() { }
func zero[T any]() T { var x T; return x }
func main() { }
func test[T any, C comparable, I integer](tt T, cc C, ii I, e E, p P, q Q, ff F, s []int8, ss [][]P, st []T, c chan int8, cp chan P, v func(), w func(int8) bool, b bool, n int) {
var i8 int8; var u8 uint8; var i32 int32; var u32 uint32; var i64 int64; var u64 uint64
{
`

// body answers a program with these statements.
func body(s string) string { return ahead + s + "\n}\n}" }

func wantBody(t *testing.T, bodies ...string) {
	t.Helper()
	for _, s := range bodies {
		if _, at, e := check.Source(body(s)); e != api.OK || at != 0 {
			t.Errorf("error %d at %d of %s", e, at-len(ahead), s)
		}
	}
}

func wantBodyFault(t *testing.T, want api.Errno, bodies ...string) {
	t.Helper()
	for _, s := range bodies {
		n := read(t, body(s))
		_, at, e := check.Program(n)
		isPlace := slices.ContainsFunc(walk(n), func(p api.Node) bool { return p.At == at })
		if e != want || !isPlace || at < len(ahead) {
			t.Errorf("error %d at %d, not %d, of %s", e, at-len(ahead), want, s)
		}
	}
}

func TestExamples(t *testing.T) {
	const begin = "func main() {\n\tx := 300\n\ty := "
	wantFine(t, begin+"int8(x)\n\tprint(y << 1)\n}\n")
	wantFault(t, api.ErrConst, begin+"int8(300)\n\tprint(y << 1)\n}\n")
	wantFault(t, api.ErrType, begin+"int8(x)\n\tprint(y << 1)\n\tx = true\n}\n")
	wantFine(t,
		"func f(c chan int64, n int64) { c <- n }\nfunc main() { c := make(chan int64, 0); go f(c, 1); go f(c, 2); print(<-c); print(<-c) }",
		"func div(a int64, b int64) int64 { return a / b }\nfunc main() { defer func() { print(recover()) }(); print(div(7, 0)) }",
		"func add[T integer](a T, b T) T { return a + b }\nfunc main() { print(add[int8](100, 100)); print(add[uint8](100, 100)); print(add(100, 100)) }",
		"func main() { x := 1; f := func() { x = x << 4 }; f(); f(); print(x) }",
		"func id[T any](x T) T { return x }\nfunc main() { id(1); id(true); id[int8](2); id(3) }",
		"func f[T any](x T) { f(make([]T, 1)) }\nfunc main() { f(1) }",
	)
}

// TestHeads: the functions' heads, in their order.
func TestHeads(t *testing.T) {
	plain := func(kind int) api.Type { return api.Type{Kind: kind} }
	list := func(l ...api.Type) []api.Type { return l }
	param := func(name string, con int) api.Type { return api.Type{Kind: api.TParam, Name: name, Con: con} }
	E := api.Type{Kind: api.TStruct, Name: "E"}
	P := api.Type{Kind: api.TStruct, Name: "P", Fields: []api.Field{{Name: "y", Type: plain(api.TUint8)}, {Name: "x", Type: api.Type{Kind: api.TSlice, List: list(E)}}}}
	T, U := param("T", api.CAny), param("U", api.CInteger)
	text := `
func z(a bool, b int8, c uint8, d int32) uint32 { panic(1) }
type E struct { }
func main() { }
func a(x int64, y uint64, z int) int { return 1 }
type P struct { y uint8; x []E }
func p(x P, y chan P) E { return E{} }
func f(f func(int, P) bool, g func(), h func() func([]int8)) { }
func t[T any, C comparable, U integer](x []T, y func(U) T) func(T) chan U { panic(1) }
func u[U integer, T any]() { }
func int9() { }
`
	want := []api.Sig{
		{Name: "z", Params: list(plain(api.TBool), plain(api.TInt8), plain(api.TUint8), plain(api.TInt32)), Res: list(plain(api.TUint32))},
		{Name: "main"},
		{Name: "a", Params: list(plain(api.TInt64), plain(api.TUint64), plain(api.TInt64)), Res: list(plain(api.TInt64))},
		{Name: "p", Params: list(P, api.Type{Kind: api.TChan, List: list(P)}), Res: list(E)},
		{Name: "f", Params: list(
			api.Type{Kind: api.TFunc, List: list(plain(api.TInt64), P), Res: list(plain(api.TBool))},
			api.Type{Kind: api.TFunc},
			api.Type{Kind: api.TFunc, Res: list(api.Type{Kind: api.TFunc, List: list(api.Type{Kind: api.TSlice, List: list(plain(api.TInt8))})})},
		)},
		{Name: "t", TParams: list(T, param("C", api.CComparable), U),
			Params: list(api.Type{Kind: api.TSlice, List: list(T)}, api.Type{Kind: api.TFunc, List: list(U), Res: list(T)}),
			Res:    list(api.Type{Kind: api.TFunc, List: list(T), Res: list(api.Type{Kind: api.TChan, List: list(U)})})},
		{Name: "u", TParams: list(U, T)},
		{Name: "int9"},
	}
	got, at, e := check.Program(read(t, text))
	if e != api.OK || at != 0 || !reflect.DeepEqual(got, want) {
		t.Errorf("%d at %d, %+v", e, at, got)
	}
	if got, _, e := check.Program(read(t, "func main() { }")); e != api.OK || !reflect.DeepEqual(got, []api.Sig{{Name: "main"}}) {
		t.Errorf("%d, %+v", e, got)
	}
}

// TestNoProgram: what is no sound program is ErrForm at 0, whatever else is wrong with it.
func TestNoProgram(t *testing.T) {
	fine := read(t, "func main() { x := 1; print(x) }")
	faulty := read(t, "func main() { x := 1; print(y) }")
	for _, n := range []api.Node{fine, faulty} {
		for i, p := range walk(n) {
			for _, change := range []func(p *api.Node){
				func(p *api.Node) { p.Kind = 99 }, func(p *api.Node) { p.Kind = -p.Kind }, func(p *api.Node) { p.List = append(p.List, api.Node{At: 5}) }, func(p *api.Node) { p.Text += "\xff" }, func(p *api.Node) { p.N += 1 << 40 },
			} {
				c := clone(n)
				change(pointers(&c)[i])
				if tree.Check(c) == api.OK {
					continue
				}
				if sigs, at, e := check.Program(c); e != api.ErrForm || at != 0 || len(sigs) > 0 {
					t.Errorf("%d at %d of a change of a node %d", e, at, p.Kind)
				}
			}
			if p.Kind != fine.Kind {
				if _, at, e := check.Program(p); e != api.ErrForm || at != 0 {
					t.Errorf("%d at %d of a node %d", e, at, p.Kind)
				}
			}
		}
	}
	for _, n := range []api.Node{{}, {Kind: 1, At: 3, N: 1}, {Kind: 1, Text: "x"}, {Kind: 1, List: make([]api.Node, 1)}, {Kind: 1, List: make([]api.Node, api.MaxNodes)}} {
		if _, at, e := check.Program(n); e != api.ErrForm || at != 0 {
			t.Errorf("%d at %d of no program", e, at)
		}
	}
}

// pointers answers where the nodes of n stand, in the order of walk.
func pointers(n *api.Node) []*api.Node {
	all := []*api.Node{n}
	for i := range n.List {
		all = append(all, pointers(&n.List[i])...)
	}
	return all
}

// TestAnyPlaces: places of nodes may be any numbers.
func TestAnyPlaces(t *testing.T) {
	for _, at := range []int{-1, 0, 7, -1 << 63, 1<<63 - 1} {
		for s, want := range map[string]api.Errno{"func main() { }": api.OK, "func main() { x = 1 }": api.ErrName, "type P struct { }": api.ErrName, "": api.ErrName} {
			n := read(t, s)
			for _, p := range pointers(&n) {
				p.At = at
			}
			_, place, e := check.Program(n)
			if e != want || (e == api.OK) != (place == 0) && at != 0 || e != api.OK && place != at {
				t.Errorf("%d at %d of %q with places %d", e, place, s, at)
			}
		}
	}
}

// TestPlaces: the place is that of a node in which the fault is. A $ marks it.
func TestPlaces(t *testing.T) {
	for _, marked := range []string{
		"func main() { print($y) }", "func main() { x := 1; x = $true }", "func main() { x := true && $1 }", "func main() { x := $1 && true }", "func main() { x := true; x = !$1 }", "func main() { x := int8(1); y := x + $300 }", "func main() { x := int8(1); y := $300 + x }", "func main() { x := 1 << $true }", "func main() { x := $true << 1 }", "func main() { x := true $< false }", "func main() { x := 1 $/ 0 }",
		"func main() { x := 1; $x := 2 }", "func main() { $break }", "func main() { go $print(1) }", "func f(x int, $x int) { }; func main() { }", "func f() { }; $func f() { }; func main() { }", "func f() int ${ }; func main() { }", "func main() { if $1 { } }", "func main() { for $1 { } }", "func main() { $return 1 }", "func main() { print($main) }", "func main() { x := int8($300) }", "func main() { x := int8($true) }", "func main() { panic($true) }", "func main() { x := len($1) }",
		"func f(x int, y bool) { }; func main() { f(1, $2) }", "func f(x int, y bool) { }; func main() { g := f; g(1, $2) }", "func f[T any](x T, y []T) { }; func main() { f(1, $true) }", "type P struct { x $P }; func main() { }", "func main() { x := $y }", "func main() { var x $y }", "func f[T any, $T any]() { }; func main() { }", "type P struct { x int; $x int }; func main() { }", "func f[T any]() { }; func main() { f[$1]() }",
	} {
		at := strings.Index(marked, "$")
		s := strings.ReplaceAll(marked, "$", "")
		if _, place, e := check.Source(s); e == api.OK || place != at {
			t.Errorf("error %d at %d of %s", e, place, marked)
		}
	}
}

// TestFaultsOfTexts: what can't be read has the error and the place of parse.
func TestFaultsOfTexts(t *testing.T) {
	for _, s := range []string{
		"func", "func main() { #", "func main() { 07 }", "\xff", "func main() { x }", "func main() { print(y) ", "x := 1", strings.Repeat(" ", api.MaxText+1), "func main() { x = " + strings.Repeat("-", 70) + "1 }",
		"func main() { select { default: default: } }", "func main() { break; y = 1; go x }",
	} {
		_, want, err := parse.Parse(s)
		n, at, e := check.Source(s)
		if err == api.OK || e != err || at != want || !reflect.DeepEqual(n, api.Node{}) {
			t.Errorf("%d at %d, not %d at %d, of %.99s", e, at, err, want, s)
		}
	}
}

// TestWhatFollows: a sound program stays so with a function behind whose name is new, and when it is written and read.
func TestWhatFollows(t *testing.T) {
	somePrograms(t, 11, 60, func(_ *rand.Rand, n api.Node) {
		s, e := print.Text(n)
		if e != api.OK {
			t.Fatalf("%d of a text", e)
		}
		wantFine(t, s)
		for _, name := range []string{"fresh", "a", "x", "T", "U"} {
			for _, more := range []string{"() { }", "[T any](x T) T { return x }", "(x int) int { panic(x) }"} {
				wantFine(t, s+"func "+name+more)
			}
		}
	})
}
