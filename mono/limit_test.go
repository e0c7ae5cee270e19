package mono_test

import (
	"fmt"
	"strings"
	"testing"

	"mullion/api"
	"mullion/mono"
)

// many answers texts with the numbers from 0 on in them, one behind the other.
func many(n int, form string) string {
	text := ""
	for i := range n {
		text += strings.ReplaceAll(form, "#", fmt.Sprint(i))
	}
	return text
}

// nested answers a text with s in it, so often as is told.
func nested(before string, times int, s, after string) string {
	return strings.Repeat(before, times) + s + strings.Repeat(after, times)
}

// TestMaxInst: there are no more than MaxInst instances, main among them.
func TestMaxInst(t *testing.T) {
	most := api.MaxInst - 1
	want := []string{"main"}
	for i := range most {
		want = append(want, fmt.Sprint("f", i))
	}
	functions := many(200, "func f#() { }\n")
	wantList(t, functions+"func main() { "+many(most, "f#(); ")+"}", want...)
	wantList(t, functions+"func main() { "+many(most, "f#(); ")+many(most, "x# := f#; ")+"main() }", want...)
	wantDeep(t, functions+"func main() { "+many(most+1, "f#(); ")+"}", "f127")
	wantDeep(t, functions+"func main() { "+many(200, "f#(); ")+"}", "f127")
	wantDeep(t, functions+"func main() { "+many(most, "f#(); ")+"f5(); x := f130; f131() }", "f130")
	// One behind the other.
	chain := ""
	for i := range 200 {
		chain += fmt.Sprintf("func f%d() { f%d() }\n", i, (i+1)%most)
	}
	wantList(t, chain+"func main() { f0() }", want...)
	wantDeep(t, strings.Replace(chain, "f126() { f0()", "f126() { f0(); f20(); f127(); f199()", 1)+"func main() { f0() }", "f127")
	// By types.
	kinds, list := []string{"bool", "int8", "uint8", "int32", "uint32", "int64", "uint64", "P"}, []string{}
	for _, form := range []string{"", "[]", "chan ", "[][]", "[]chan ", "chan []", "chan chan ", "[][][]", "[][]chan ", "[]chan []", "[]chan chan ", "chan [][]", "chan []chan ", "chan chan []", "chan chan chan ", "[][][][]"} {
		for _, k := range kinds {
			list = append(list, form+k)
		}
	}
	want = []string{"main"}
	calls := ""
	for _, s := range list[:most] {
		want = append(want, "n["+s+"]")
		calls += "n[" + s + "](); "
	}
	const n = "type P struct { }\nfunc n[T any]() { m() }\nfunc m() { }\n"
	wantList(t, "type P struct { }\nfunc n[T any]() { }\nfunc main() { "+calls+calls+"n[int](); main() }", want...)
	wantDeep(t, "type P struct { }\nfunc n[T any]() { }\nfunc main() { "+calls+"n[int](); n[[][][][]P]() }", "n")
	wantDeep(t, n+"func main() { "+calls+"}", "m")
	wantDeep(t, n+"func main() { m(); "+calls+"}", "n")
}

// TestGrowing: instances that need others without an end.
func TestGrowing(t *testing.T) {
	for _, s := range []string{
		"func f[T any](x T) { f(make([]T, 1)) }\nfunc main() { f(1) }", "func f[T any]() { f[chan T]() }\nfunc main() { f[int]() }", "func f[T any](x T) { f(func(y T) { }) }\nfunc main() { f(1) }", "func f[T any](x T) { f(func() T { return x }) }\nfunc main() { f(1) }",
		"func f[T any, U any]() { f[U, []T]() }\nfunc main() { f[int, int]() }", "func f[T any, U any]() { f[[]U, T]() }\nfunc main() { f[int, int]() }", "func f[T any]() { f[[][][]T]() }\nfunc main() { f[bool]() }", "type P struct { }\nfunc f[T any]() { f[P](); f[[]T]() }\nfunc main() { f[P]() }",
		"func g() { f[int8]() }\nfunc f[T any]() { g(); f[T](); f[[]T]() }\nfunc main() { g() }", "func f[T any]() { if false { return; f[[]T]() } }\nfunc main() { for false { f[bool]() } }", "func f[T comparable](x T) { f(make(chan T, 1)) }\nfunc main() { f(true) }",
	} {
		wantDeep(t, s, "f")
	}
	// Not by depth.
	wide := "func f[T any, U any, V any]() { f[U, V, chan T](); f[U, V, []T]() }\nfunc main() { f[bool, bool, bool]() }"
	wantDeep(t, wide, "f")
	// Instances whose types come round have an end.
	wantList(t, "func f[T any, U any]() { g[U, T]() }\nfunc g[T any, U any]() { f[T, U](); f[T, T](); g[U, U]() }\nfunc main() { f[bool, int8]() }", "main", "f[bool, int8]", "g[int8, bool]", "f[int8, bool]", "f[int8, int8]", "g[bool, bool]", "g[bool, int8]", "g[int8, int8]", "f[bool, bool]")
	wantList(t, "func f[T any]() { f[[]int]() }\nfunc main() { f[bool]() }", "main", "f[bool]", "f[[]int64]")
}

// TestDepth: type arguments are as deep as types may be, and no deeper; the function is told whose they would be.
func TestDepth(t *testing.T) {
	for _, form := range []string{"[]", "chan ", "[]chan "} {
		step := strings.Count(form, "[") + strings.Count(form, "c")
		last := api.MaxDepth / step
		text, want := "", []string{"main"}
		for i := range last + 1 {
			text += fmt.Sprintf("func f%d[T any]() { f%d[%sT]() }\n", i, i+1, form)
			want = append(want, fmt.Sprintf("f%d[%sint8]", i, strings.Repeat(form, i)))
		}
		end := fmt.Sprintf("func f%d[T any]() { }\nfunc main() { f0[int8]() }", last+1)
		wantDeep(t, text+end, fmt.Sprint("f", last+1))
		text = strings.Replace(text, fmt.Sprintf("{ f%d[%sT]() }", last+1, form), "{ }", 1)
		wantList(t, text+end, want...)
		wantDeep(t, text+strings.Replace(end, "int8", "[]int8", 1), fmt.Sprint("f", last))
	}
	deep := func(n int) string { return strings.Repeat("[]", n) + "bool" }
	const g = "func g[T any, U any]() { }\nfunc h[T any](x T) { }\n"
	wantList(t, g+"func main() { g["+deep(8)+", "+deep(8)+"]() }", "main", "g["+deep(8)+", "+deep(8)+"]")
	wantList(t, g+"func f[T any]() { g[T, chan T]() }\nfunc main() { f["+deep(7)+"]() }", "main", "f["+deep(7)+"]", "g["+deep(7)+", chan "+deep(7)+"]")
	wantDeep(t, g+"func f[T any]() { g[T, chan T]() }\nfunc main() { f["+deep(8)+"]() }", "g")
	wantDeep(t, g+"func f[T any]() { g[chan T, T]() }\nfunc main() { f["+deep(8)+"]() }", "g")
	wantDeep(t, g+"func f[T any](x T) { h(func(y T, z bool) { }) }\nfunc main() { var x "+deep(8)+"; f(x) }", "h")
	wantDeep(t, g+"func f[T any](x T) { h(func(y bool) T { return x }) }\nfunc main() { var x "+deep(8)+"; f(x) }", "h")
	wantList(t, g+"func f[T any](x T) { h(func(y bool) T { return x }) }\nfunc main() { var x "+deep(7)+"; f(x) }", "main", "f["+deep(7)+"]", "h[func(bool) "+deep(7)+"]")
	// Structs are types within types as well, and may be as deep.
	structs := "type P0 struct { x int }\n"
	for i := range 7 {
		structs += fmt.Sprintf("type P%d struct { x P%d }\n", i+1, i)
	}
	wantList(t, structs+g+"func f[T any]() { g[T, P7]() }\nfunc main() { f[P7](); f[P3]() }", "main", "f[P7]", "f[P3]", "g[P7, P7]", "g[P3, P7]")
	wantDeep(t, structs+g+"func f[T any]() { g[int, []T]() }\nfunc main() { f[P7]() }", "g")
	wantList(t, structs+g+"func f[T any]() { g[int, []T]() }\nfunc main() { f[P6]() }", "main", "f[P6]", "g[int64, []P6]")
	// What is no type argument may be too deep within an instance.
	wantList(t, g+"func f[T any](x T) { var y [][]T; y[0][0] = x; h(y[0][0]); z := make([][]T, 1)[0]; h(z[0]) }\nfunc main() { var x "+deep(8)+"; f(x) }", "main", "f["+deep(8)+"]", "h["+deep(8)+"]")
	wantList(t, "func k[T any](x [][][]T) { }\nfunc f[T any]() { k(make([][][]T, 1)) }\nfunc main() { f["+deep(8)+"]() }", "main", "f["+deep(8)+"]", "k["+deep(8)+"]")
}

// TestFirstOfSeveral: the first that there may not be is told.
func TestFirstOfSeveral(t *testing.T) {
	functions := many(200, "func f#() { }\n") + "func g[T any]() { g[[]T]() }\nfunc h[T any]() { k[[]T]() }\nfunc k[T any]() { k[T]() }\n"
	deep := strings.Repeat("[]", 8) + "int"
	wantDeep(t, functions+"func main() { h["+deep+"](); "+many(200, "f#(); ")+"}", "f126")
	wantDeep(t, functions+"func main() { h["+deep+"](); "+many(126, "f#(); ")+"}", "k")
	wantDeep(t, functions+"func main() { h["+deep+"](); g[int](); "+many(20, "f#(); ")+"}", "k")
	wantDeep(t, functions+"func main() { g[int](); h["+deep+"](); "+many(20, "f#(); ")+"}", "k")
	wantDeep(t, functions+"func main() { g["+deep+"](); h["+deep+"](); "+many(20, "f#(); ")+"}", "g")
	wantDeep(t, functions+"func main() { h[bool](); "+many(126, "f#(); ")+"}", "k")
	wantList(t, functions+"func main() { h[bool]() }", "main", "h[bool]", "k[[]bool]")
}

// TestTypesLargerThanMemory: what is not answered is not written out.
func TestTypesLargerThanMemory(t *testing.T) {
	const wide = "func wide[T any](x T) func(T, T, T, T, T, T, T, T, T, T, T, T, T, T, T, T) T { panic(1) }\nfunc take[T any](x T) { }\n"
	structs, funcs := "type A0 struct { }\n", "type B0 struct { x int }\n"
	for i := range 8 {
		structs += fmt.Sprintf("type A%d struct { ", i+1) + many(16, fmt.Sprintf("x# A%d; ", i)) + "}\n"
	}
	for i := range 3 {
		funcs += fmt.Sprintf("type B%d struct { ", i+1) + many(16, fmt.Sprintf("x# func(%s) B%d; ", nested(fmt.Sprintf("B%d, ", i), 15, fmt.Sprint("B", i), ""), i)) + "}\n"
	}
	within := wide + "func f[T any](x T) { take(" + nested("wide(", 8, "x", ")") + ") }\n"
	for s, want := range map[string]int{
		wide + "func main() { take(" + nested("wide(", 8, "1", ")") + ") }":                           10,
		within + "func main() { f(1); f(true) }":                                                      21,
		within + "func g[T any](x T) { f(x); x = x }\nfunc main() { g(1); g(int8(2)); f(uint8(3)) }":  33,
		structs + "func take[T any](x T) { }\nfunc main() { var x A8; take(x); take(make([]A7, 1)) }": 3,
		funcs + "func take[T any](x T) { }\nfunc main() { var x B3; take(x); take(x.x0) }":            3,
	} {
		if got, e := mono.Count(fine(t, s)); got != want || e != api.OK {
			t.Errorf("Count = %d, %d, not %d, of %.1000s", got, e, want, s)
		}
	}
	wantDeep(t, within+"func main() { f(make([]int, 1)) }", "take")
	// The heads of functions are no part of the answer.
	wantList(t, structs+funcs+"func f(x A8, y B3) { }\nfunc main() { var x A8; var y B3; f(x, y) }", "main", "f")
}

// TestManyNeeds: programs as large as a tree may be.
func TestManyNeeds(t *testing.T) {
	places := [][4]int{{1, 0, 2, 3}, {1, 2, 3, 0}, {0, 0, 0, 1}}
	text := "func f[T any, U any, V any, W any](x T, y U, z V, w W) { "
	for i := range 1400 {
		text += "f("
		for j, place := range places[i%3] {
			text += []string{"", ", "}[min(j, 1)] + []string{"x", "y", "z", "w"}[place]
		}
		text += "); "
	}
	kinds := []string{"int64", "bool", "int8", "uint8"}
	want, seen := []string{"main"}, map[string]int{}
	reached := [][4]int{{0, 1, 2, 3}}
	for i := 0; i < len(reached); i++ {
		args := reached[i]
		name := fmt.Sprintf("f[%s, %s, %s, %s]", kinds[args[0]], kinds[args[1]], kinds[args[2]], kinds[args[3]])
		if seen[name]++; seen[name] > 1 {
			continue
		}
		want = append(want, name)
		for _, p := range places {
			reached = append(reached, [4]int{args[p[0]], args[p[1]], args[p[2]], args[p[3]]})
		}
	}
	wantList(t, text+"}\nfunc main() { f(1, true, int8(1), uint8(2)) }", want...)
	wantList(t, "func f[T any](x T) { "+strings.Repeat("f(x); ", 2700)+"}\nfunc main() { f(1) }", "main", "f[int64]")
}
