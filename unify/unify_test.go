package unify_test

import (
	"fmt"
	"math/rand"
	"slices"
	"strings"
	"testing"

	"mullion/api"
	"mullion/types"
	"mullion/unify"
)

// P8.1.

func unifyOf(names []string, want, have []api.Type) answer {
	args, known, e := unify.Unify(names, want, have)
	return answer{args: args, known: known, e: e}
}

// told is all of an answer as a text.
func told(a answer) string {
	lines := []string{fmt.Sprintf("error %d at %d, known %v, %d args", a.e, a.at, a.known, len(a.args))}
	for _, t := range a.args {
		lines = append(lines, spelt(t))
	}
	return strings.Join(lines, "\n")
}

func wantAnswer(t *testing.T, what string, got, want answer) {
	t.Helper()
	if told(got) != told(want) {
		t.Errorf("%s:\n%s\nnot\n%s", what, told(got), told(want))
	}
}

func TestUnify(t *testing.T) {
	b, i, x := plain(api.TBool), plain(api.TInt8), plain(api.TUint64)
	T, U, V := param("T", api.CAny), param("U", api.CInteger), param("V", api.CComparable)
	rows := []struct {
		names      string
		want, have []api.Type
		args       []api.Type // the zero type where nothing is known
	}{
		// The chapter's.
		{"T U", list(sliceOf(T), funcOf(list(U), T)), list(sliceOf(i), funcOf(list(b), i)), list(i, b)},
		// In the order of names, not in that in which they stand.
		{"U T", list(sliceOf(T), funcOf(list(U), T)), list(sliceOf(i), funcOf(list(b), i)), list(b, i)},
		{"T", list(T), list(b), list(b)},
		{"T", list(T), list(structOf("P", "ab", b, sliceOf(i))), list(structOf("P", "ab", b, sliceOf(i)))},
		{"T", list(chanOf(T)), list(chanOf(chanOf(x))), list(chanOf(x))},
		{"T", list(structOf("P", "ab", T, b)), list(structOf("P", "ab", sliceOf(i), b)), list(sliceOf(i))},
		{"T", list(funcOf(list(b, T))), list(funcOf(list(b, i))), list(i)},
		{"T", list(funcOf(nil, T)), list(funcOf(nil, funcOf(nil))), list(funcOf(nil))},
		{"T U V", list(structOf("P", "ab", V, funcOf(list(T), U))), list(structOf("P", "ab", b, funcOf(list(i), x))), list(i, x, b)},
		// What stands several times stands for the same.
		{"T", list(T, T, sliceOf(T)), list(i, i, sliceOf(i)), list(i)},
		{"T", list(funcOf(list(T, T), T)), list(funcOf(list(sliceOf(b), sliceOf(b)), sliceOf(b))), list(sliceOf(b))},
		{"T U", list(T, U), list(i, i), list(i, i)},
		// Nothing is known of what is not there.
		{"T", nil, nil, list(api.Type{})},
		{"T U V", list(b, sliceOf(U)), list(b, sliceOf(x)), list(api.Type{}, x, api.Type{})},
		{"", list(b, sliceOf(i)), list(b, sliceOf(i)), nil},
		{"", nil, nil, nil},
		// TParams of other names are types like others.
		{"T", list(funcOf(list(T), U)), list(funcOf(list(b), U)), list(b)},
		{"", list(T, sliceOf(U)), list(T, sliceOf(U)), nil},
		// What is had is not looked through for names.
		{"T", list(T), list(T), list(T)},
		{"T", list(T), list(sliceOf(T)), list(sliceOf(T))},
		{"T U", list(T, U), list(U, T), list(U, T)},
		{"T U", list(T, U, funcOf(list(T, U))), list(U, T, funcOf(list(U, T))), list(U, T)},
		{"T", list(T, T), list(funcOf(nil, T), funcOf(nil, T)), list(funcOf(nil, T))},
		// Con of what is wanted is not looked at where the name is one that is asked for.
		{"T", list(param("T", api.CInteger), param("T", api.CAny), param("T", api.CComparable)), list(sliceOf(b), sliceOf(b), sliceOf(b)), list(sliceOf(b))},
		// A struct or a field of one of the names is none of it.
		{"T a", list(structOf("T", "aT", b, i)), list(structOf("T", "aT", b, i)), list(api.Type{}, api.Type{})},
		{"P", list(structOf("P", "a", T)), list(structOf("P", "a", T)), list(api.Type{})},
	}
	for n, r := range rows {
		want := answer{args: r.args}
		for _, a := range r.args {
			want.known = append(want.known, a.Kind != 0)
		}
		wantAnswer(t, fmt.Sprint("row ", n), unifyOf(strings.Fields(r.names), r.want, r.have), want)
	}
}

// TestNoNames: what no TParam can be called stands for nothing.
func TestNoNames(t *testing.T) {
	none := answer{args: make([]api.Type, 3), known: make([]bool, 3)}
	b := list(plain(api.TBool))
	wantAnswer(t, "no names", unifyOf([]string{"", "\xff", "9"}, b, b), none)
	wantAnswer(t, "no types", unifyOf([]string{"", "a b", strings.Repeat("n", 70000)}, nil, nil), none)
}

// differing: types that do not match for T, and are the same but for one thing.
func differing() [][2]api.Type {
	b, i := plain(api.TBool), plain(api.TInt8)
	T, U := param("T", api.CAny), param("U", api.CAny)
	return [][2]api.Type{
		// Kind.
		{b, i}, {sliceOf(b), chanOf(b)}, {sliceOf(T), chanOf(b)}, {U, structOf("U", "")}, {funcOf(list(T)), sliceOf(b)}, {b, T},
		// Name.
		{structOf("P", "a", T), structOf("Q", "a", b)}, {structOf("P", ""), structOf("Q", "")}, {U, param("V", api.CAny)}, {U, T},
		// Con.
		{U, param("U", api.CComparable)}, {param("U", api.CInteger), U},
		// The names of fields.
		{structOf("P", "a", T), structOf("P", "b", b)}, {structOf("P", "ab", T, T), structOf("P", "ba", b, b)}, {structOf("P", "ab", b, b), structOf("P", "ac", b, b)},
		// As many.
		{structOf("P", "ab", T, b), structOf("P", "a", b)}, {structOf("P", "a", T), structOf("P", "ab", b, b)}, {structOf("P", ""), structOf("P", "a", b)},
		{funcOf(list(T, b)), funcOf(list(b))}, {funcOf(list(T)), funcOf(list(b, b))}, {funcOf(nil), funcOf(list(b))}, {funcOf(list(T)), funcOf(nil)},
		{funcOf(list(T), T), funcOf(list(b))}, {funcOf(list(T)), funcOf(list(b), b)}, {funcOf(nil), funcOf(nil, b)},
		{funcOf(list(b)), funcOf(nil, b)}, {funcOf(nil, T), funcOf(list(b))},
		// Parts.
		{structOf("P", "ab", T, i), structOf("P", "ab", b, b)}, {funcOf(list(T, i)), funcOf(list(b, b))}, {funcOf(list(i, T)), funcOf(list(b, b))}, {funcOf(list(T), i), funcOf(list(b), b)},
		// T for two types that are not the same.
		{funcOf(list(T, T)), funcOf(list(b, i))}, {funcOf(list(T), T), funcOf(list(b), i)}, {funcOf(nil, funcOf(list(T), T)), funcOf(nil, funcOf(list(i), b))},
		{structOf("P", "abc", T, b, T), structOf("P", "abc", b, b, i)}, {structOf("P", "ab", T, funcOf(nil, T)), structOf("P", "ab", b, funcOf(nil, i))},
		{funcOf(list(T, T)), funcOf(list(U, param("U", api.CInteger)))}, {funcOf(list(T, T)), funcOf(list(U, param("V", api.CAny)))},
		{funcOf(list(T, T)), funcOf(list(structOf("P", "a", b), structOf("P", "b", b)))}, {funcOf(list(T, T)), funcOf(list(structOf("P", "a", b), structOf("Q", "a", b)))},
		{funcOf(list(T, T)), funcOf(list(funcOf(nil, b), funcOf(list(b))))}, {funcOf(list(T, T)), funcOf(list(T, b))}, {funcOf(list(T, T)), funcOf(list(b, T))},
		{funcOf(list(T, sliceOf(T))), funcOf(list(sliceOf(b), b))}, {funcOf(list(sliceOf(T), T)), funcOf(list(sliceOf(b), sliceOf(b)))},
		{funcOf(list(T, param("T", api.CInteger))), funcOf(list(b, i))},
	}
}

func TestUnifyDiffering(t *testing.T) {
	none := answer{e: api.ErrType}
	T, b := param("T", api.CAny), plain(api.TBool)
	for n, p := range differing() {
		for way := range 5 {
			want, have := nest(p[0], way, way), nest(p[1], way, way)
			what := fmt.Sprint("differing ", n, way)
			wantAnswer(t, what, unifyOf([]string{"T"}, list(want), list(have)), none)
			wantAnswer(t, what, unifyOf([]string{"W", "T"}, list(b, want, b), list(b, have, b)), none)
			// With nothing to be found, nothing but the same matches.
			if same, _ := types.Same(want, want); same {
				wantAnswer(t, what, unifyOf(nil, list(want), list(have)), none)
			}
			wantAnswer(t, what, unifyOf([]string{"T"}, list(have), list(have)), modelUnify([]string{"T"}, list(have), list(have)))
		}
	}
	// From pair to pair.
	wantAnswer(t, "pairs", unifyOf([]string{"T"}, list(T, T), list(b, plain(api.TInt8))), none)
	wantAnswer(t, "pairs", unifyOf([]string{"T"}, list(T, b, sliceOf(T)), list(T, b, sliceOf(b))), none)
}

func TestUnifyWrongArgs(t *testing.T) {
	none := answer{e: api.ErrArg}
	T, b, i := param("T", api.CAny), plain(api.TBool), plain(api.TInt8)
	rows := []struct {
		names      []string
		want, have []api.Type
	}{
		{[]string{"T", "T"}, nil, nil}, {[]string{"T", "U", "V", "T"}, list(T), list(b)}, {[]string{"", ""}, nil, nil}, {[]string{"a", "\xff", "\xff"}, list(b), list(b)},
		{nil, list(b), nil}, {nil, nil, list(b)}, {[]string{"T"}, list(T, T), list(b)}, {[]string{"T"}, list(T), list(b, b)}, {[]string{"T", "T"}, list(T), nil},
		// Ahead of ErrType.
		{[]string{"T", "T"}, list(b), list(i)}, {[]string{"T"}, list(b, T), list(i)}, {[]string{"T"}, list(b), list(i, i)}, {[]string{"U", "T", "U"}, list(T, T), list(b, i)},
	}
	for n, r := range rows {
		wantAnswer(t, fmt.Sprint("row ", n), unifyOf(r.names, r.want, r.have), none)
	}
}

// TestUnifyAllSmall holds each small type against each other, for some lists of names.
func TestUnifyAllSmall(t *testing.T) {
	all := smallOnes()
	for _, names := range [][]string{nil, {"T"}, {"U", "T"}, {"V", "P", "U"}} {
		for _, w := range all {
			for _, h := range all {
				got, want := unifyOf(names, list(w), list(h)), modelUnify(names, list(w), list(h))
				if told(got) != told(want) {
					t.Fatalf("%q, %+v, %+v:\n%s\nnot\n%s", names, w, h, told(got), told(want))
				}
			}
		}
	}
}

// somePairs makes types that are wanted and, by chance, what is had with types put in, or that with one thing changed.
func somePairs(r *rand.Rand, names []string) (want, have []api.Type) {
	args := make([]api.Type, len(names))
	for i := range args {
		args[i] = someSound(r, r.Intn(3))
	}
	for range r.Intn(4) {
		w := someSound(r, r.Intn(4))
		h, e := types.Subst(w, names, args)
		if e != api.OK {
			continue
		}
		want, have = append(want, w), append(have, h)
	}
	if len(have) > 0 && r.Intn(4) > 0 {
		n := r.Intn(len(have))
		if h := changed(r, have[n]); types.Check(h) == api.OK {
			have[n] = h
		}
	}
	return want, have
}

func TestUnifyByChance(t *testing.T) {
	r := rand.New(rand.NewSource(8))
	met := map[api.Errno]int{}
	for range 20000 {
		names := []string{"T", "Ärm", "U", "_", "V"}[:r.Intn(6)]
		want, have := somePairs(r, names)
		got := unifyOf(names, want, have)
		met[got.e]++
		wantAnswer(t, fmt.Sprintf("%q, %+v, %+v", names, want, have), got, modelUnify(names, want, have))
		if got.e == api.OK {
			wantHad(t, names, got, want, have)
		}
	}
	if met[api.OK] < 2000 || met[api.ErrType] < 1000 {
		t.Errorf("too few of a sort: %v", met)
	}
}

// wantHad: what is wanted, with what is known put in, is what is had.
func wantHad(t *testing.T, names []string, a answer, want, have []api.Type) {
	t.Helper()
	var known []string
	var args []api.Type
	for i, n := range names {
		if a.known[i] {
			known, args = append(known, n), append(args, a.args[i])
		}
	}
	for i, w := range want {
		got, e := types.Subst(w, known, args)
		if same, _ := types.Same(got, have[i]); e != api.OK || !same {
			t.Errorf("%+v with %+v put in is %+v, %d, not %+v", w, args, got, e, have[i])
		}
	}
}

// TestUnifyAtTheEnds: types as deep and as wide as may be, and more names and pairs than a function has parameters.
func TestUnifyAtTheEnds(t *testing.T) {
	for way := range 5 {
		for outer := range api.MaxDepth + 1 {
			arg := nest(plain(api.TInt64), api.MaxDepth-outer, way+1)
			want, have := nest(param("T", 1), outer, way), nest(arg, outer, way)
			wantAnswer(t, "deep", unifyOf([]string{"T"}, list(want), list(have)), answer{args: list(arg), known: []bool{true}})
			wantAnswer(t, "deep", unifyOf([]string{"T"}, list(want), list(nest(arg, outer, way+1))), modelUnify([]string{"T"}, list(want), list(nest(arg, outer, way+1))))
		}
	}
	letters := "abcdefghijklmnop"
	wide := structOf("P", letters, slices.Repeat(list(param("T", 1)), 16)...)
	row := structOf("R", "abcd", slices.Repeat(list(plain(api.TInt64)), 4)...)
	full := structOf("P", letters, slices.Repeat(list(row), 16)...)
	wantAnswer(t, "wide", unifyOf([]string{"T"}, list(wide), list(full)), answer{args: list(row), known: []bool{true}})
	full.Fields[15].Type = structOf("R", "abcd", slices.Repeat(list(plain(api.TUint64)), 4)...)
	wantAnswer(t, "wide", unifyOf([]string{"T"}, list(wide), list(full)), answer{e: api.ErrType})

	var names []string
	var want, have []api.Type
	all := answer{}
	for n := range 1000 {
		name := fmt.Sprint("n", n)
		names = append(names, name)
		want, have = append(want, sliceOf(param(name, 1))), append(have, sliceOf(chanOf(plain(1+n%7))))
		all.args, all.known = append(all.args, chanOf(plain(1+n%7))), append(all.known, true)
	}
	wantAnswer(t, "many", unifyOf(names, want, have), all)
	names[999] = "n0"
	wantAnswer(t, "many", unifyOf(names, want, have), answer{e: api.ErrArg})
}
