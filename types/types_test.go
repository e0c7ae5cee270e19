package types_test

import (
	"math/rand"
	"reflect"
	"slices"
	"strings"
	"testing"

	"mullion/api"
	"mullion/types"
)

// P2.1.

func TestSoundTypes(t *testing.T) {
	for _, m := range soundOnes() {
		if e := types.Check(m.t); e != api.OK {
			t.Errorf("Check(%s) = %d", m.text, e)
		}
		if n, e := types.Cells(m.t); n != m.cells || e != api.OK {
			t.Errorf("Cells(%s) = %d, %d, not %d", m.text, n, e, m.cells)
		}
		if n, e := types.Depth(m.t); n != m.depth || e != api.OK {
			t.Errorf("Depth(%s) = %d, %d, not %d", m.text, n, e, m.depth)
		}
		if b, e := types.Comparable(m.t); b != m.comparable || e != api.OK {
			t.Errorf("Comparable(%s) = %v, %d", m.text, b, e)
		}
	}
}

func TestNames(t *testing.T) {
	for _, n := range names() {
		f := []api.Field{{Name: n, Type: api.Type{Kind: api.TBool}}}
		for _, x := range []api.Type{{Kind: api.TParam, Name: n, Con: 1}, {Kind: api.TStruct, Name: n}, {Kind: api.TStruct, Name: "P", Fields: f}, {Kind: api.TStruct, Name: n, Fields: f}} {
			if e := types.Check(x); e != api.OK {
				t.Errorf("Check with the name %q = %d", n, e)
			}
		}
	}
}

// TestUnsoundTypes: each call answers ErrForm, and zero values beside it, whatever else is wrong.
func TestUnsoundTypes(t *testing.T) {
	ok := api.Type{Kind: api.TParam, Name: "T", Con: 1}
	for i, x := range unsoundOnes() {
		if e := types.Check(x); e != api.ErrForm {
			t.Errorf("%d: Check = %d", i, e)
		}
		for _, pair := range [][2]api.Type{{x, ok}, {ok, x}, {x, x}} {
			if b, e := types.Same(pair[0], pair[1]); b || e != api.ErrForm {
				t.Errorf("%d: Same = %v, %d", i, b, e)
			}
		}
		if s, e := types.Text(x); s != "" || e != api.ErrForm {
			t.Errorf("%d: Text = %q, %d", i, s, e)
		}
		if n, e := types.Cells(x); n != 0 || e != api.ErrForm {
			t.Errorf("%d: Cells = %d, %d", i, n, e)
		}
		if n, e := types.Depth(x); n != 0 || e != api.ErrForm {
			t.Errorf("%d: Depth = %d, %d", i, n, e)
		}
		if b, e := types.Comparable(x); b || e != api.ErrForm {
			t.Errorf("%d: Comparable = %v, %d", i, b, e)
		}
		for con := -1; con <= 4; con++ {
			if b, e := types.Fits(x, con); b || e != api.ErrForm {
				t.Errorf("%d: Fits of %d = %v, %d", i, con, b, e)
			}
		}
		if l, e := types.Params(x); len(l) > 0 || e != api.ErrForm {
			t.Errorf("%d: Params = %q, %d", i, l, e)
		}
		wantNone(t, api.ErrForm)(types.Copy(x))
		wantNone(t, api.ErrForm)(types.Subst(x, nil, nil))
		wantNone(t, api.ErrForm)(types.Subst(x, []string{"T"}, []api.Type{ok}))
		wantNone(t, api.ErrForm)(types.Subst(ok, []string{"T"}, []api.Type{x}))
		wantNone(t, api.ErrForm)(types.Subst(ok, []string{"U", "W"}, []api.Type{ok, x}))
		// Ahead of ErrArg.
		wantNone(t, api.ErrForm)(types.Subst(x, []string{"T"}, nil))
		wantNone(t, api.ErrForm)(types.Subst(x, []string{"T", "T"}, []api.Type{ok, ok}))
		wantNone(t, api.ErrForm)(types.Subst(ok, []string{"T", "T"}, []api.Type{ok, x}))
		wantNone(t, api.ErrForm)(types.Subst(ok, nil, []api.Type{x}))
	}
}

// TestSame holds each type against each other; those of one text differ in what the text does not tell.
func TestSame(t *testing.T) {
	all := soundOnes()
	for _, a := range all {
		for _, b := range all {
			if got, e := types.Same(a.t, b.t); got != reflect.DeepEqual(a.t, b.t) || e != api.OK {
				t.Errorf("Same(%+v, %+v) = %v, %d", a.t, b.t, got, e)
			}
		}
	}
}

func TestSameInAll(t *testing.T) {
	b, i, x := plain(api.TBool), plain(api.TInt8), param("T", api.CAny)
	one := api.Type{Kind: api.TStruct, Name: "P", Fields: []api.Field{{Name: "x", Type: b.t}}}
	two := api.Type{Kind: api.TStruct, Name: "P", Fields: []api.Field{{Name: "y", Type: b.t}}}
	differ := [][2]api.Type{
		{one, two}, {x.t, param("T", api.CInteger).t}, {x.t, param("U", api.CAny).t}, {x.t, structOf("T").t},
		{structOf("P", b).t, structOf("Q", b).t}, {structOf("P", b).t, structOf("P", i).t}, {structOf("P", b).t, structOf("P", b, b).t}, {structOf("P", b, i).t, structOf("P", i, b).t},
		{sliceOf(b).t, chanOf(b).t}, {sliceOf(b).t, sliceOf(i).t}, {funcOf([]made{b}).t, funcOf(nil, b).t}, {funcOf([]made{b, i}).t, funcOf([]made{i, b}).t},
		{funcOf([]made{b}).t, funcOf([]made{b, b}).t}, {funcOf(nil, b).t, funcOf(nil, i).t}, {funcOf(nil, b).t, funcOf(nil).t}, {funcOf([]made{b}).t, funcOf([]made{b}, b).t},
	}
	for n, p := range differ {
		for way := range 5 {
			a, b := nest(made{t: p[0]}, way, way).t, nest(made{t: p[1]}, way, way).t
			wantSame(t, n, false, a, b)
			wantSame(t, n, false, b, a)
			wantSame(t, n, true, a, a)
			wantSame(t, n, true, b, b)
		}
	}
}

// TestEmptyLists: nil and empty are the same.
func TestEmptyLists(t *testing.T) {
	empty := func(x api.Type) api.Type {
		if x.Fields == nil {
			x.Fields = []api.Field{}
		}
		if x.List == nil {
			x.List = make([]api.Type, 0, 3)
		}
		if x.Res == nil {
			x.Res = []api.Type{}
		}
		return x
	}
	for _, m := range soundOnes() {
		if e := types.Check(empty(m.t)); e != api.OK {
			t.Errorf("Check(%s) = %d", m.text, e)
		}
		wantSame(t, 0, true, empty(m.t), m.t)
		wantSame(t, 0, true, m.t, empty(m.t))
		wantType(t, m.text, m.t)(types.Copy(empty(m.t)))
	}
}

// P2.2.

func TestText(t *testing.T) {
	for _, m := range soundOnes() {
		if s, e := types.Text(m.t); s != m.text || e != api.OK {
			t.Errorf("Text = %q, %d, not %q", s, e, m.text)
		}
	}
	b, i := plain(api.TBool), plain(api.TInt8)
	rows := map[string]made{
		"func([]int8, bool) T":            funcOf([]made{sliceOf(i), b}, param("T", 1)),
		"func()":                          funcOf(nil),
		"func() func(bool)":               funcOf(nil, funcOf([]made{b})),
		"chan []chan int8":                chanOf(sliceOf(chanOf(i))),
		"chan func(P, Ä) chan bool":       chanOf(funcOf([]made{structOf("P", b), param("Ä", 1)}, chanOf(b))),
		"func(func() int8, func()) []P":   funcOf([]made{funcOf(nil, i), funcOf(nil)}, sliceOf(structOf("P", i))),
		"func(uint8, int32, uint32) bool": funcOf([]made{plain(3), plain(4), plain(5)}, b),
		"func(int64) uint64":              funcOf([]made{plain(6)}, plain(7)),
	}
	for want, m := range rows {
		if s, e := types.Text(m.t); s != want || e != api.OK {
			t.Errorf("Text = %q, %d, not %q", s, e, want)
		}
	}
}

// P2.3.

func TestFits(t *testing.T) {
	for _, m := range soundOnes() {
		want := map[int]bool{api.CAny: true, api.CComparable: m.comparable, api.CInteger: m.whole}
		for con, fits := range want {
			if b, e := types.Fits(m.t, con); b != fits || e != api.OK {
				t.Errorf("Fits(%s, %d) = %v, %d", m.text, con, b, e)
			}
		}
		for _, con := range []int{-1 << 63, -1, 0, 4, 5, 1<<63 - 1} {
			if b, e := types.Fits(m.t, con); b || e != api.ErrArg {
				t.Errorf("Fits(%s, %d) = %v, %d", m.text, con, b, e)
			}
		}
	}
}

func TestParams(t *testing.T) {
	for _, m := range soundOnes() {
		if l, e := types.Params(m.t); !slices.Equal(l, m.params) || e != api.OK {
			t.Errorf("Params(%s) = %q, %d, not %q", m.text, l, e, m.params)
		}
	}
	a, b, c := param("A", 1), param("B", 2), param("C", 3)
	rows := []struct {
		m    made
		want string
	}{
		{funcOf([]made{c, b}, a), "C B A"},
		{funcOf([]made{sliceOf(b), a, param("B", 1)}, b), "B A"},
		{structOf("P", structOf("Q", c, a), b, c), "C A B"},
		{structOf("A", plain(1)), ""},
		{funcOf(nil, a), "A"},
	}
	for _, r := range rows {
		if l, e := types.Params(r.m.t); strings.Join(l, " ") != r.want || e != api.OK {
			t.Errorf("Params(%s) = %q, %d, not %q", r.m.text, l, e, r.want)
		}
	}
}

// P2.4.

func TestSubst(t *testing.T) {
	b, i := plain(api.TBool), plain(api.TInt8)
	x, u := param("T", api.CAny), param("U", api.CInteger)
	rows := []struct {
		from  made
		names string
		args  []made
		want  made
	}{
		{sliceOf(x), "T", []made{chanOf(b)}, sliceOf(chanOf(b))},
		{x, "T", []made{i}, i},
		{x, "", nil, x},
		{x, "U", []made{i}, x},
		{funcOf([]made{x, u}, x), "T U", []made{u, x}, funcOf([]made{u, x}, u)},
		{funcOf([]made{x, u}, x), "U T", []made{b, i}, funcOf([]made{i, b}, i)},
		{sliceOf(x), "T", []made{sliceOf(x)}, sliceOf(sliceOf(x))},
		{structOf("T", x, sliceOf(u)), "T", []made{b}, structOf("T", b, sliceOf(u))},
		{structOf("P", structOf("Q", x), x), "T", []made{structOf("T", x, x)}, structOf("P", structOf("Q", structOf("T", x, x)), structOf("T", x, x))},
		// Con is not looked at, neither what is replaced has nor what it asks for.
		{funcOf([]made{x, param("T", 2)}, param("T", 3)), "T", []made{sliceOf(b)}, funcOf([]made{sliceOf(b), sliceOf(b)}, sliceOf(b))},
		{chanOf(u), "U", []made{funcOf(nil)}, chanOf(funcOf(nil))},
		// What is no name, or is that of a field, stands for nothing.
		{structOf("P", i, x), "fa P fb", []made{b, b, b}, structOf("P", i, x)},
		{plain(api.TUint8), "9", []made{b}, plain(api.TUint8)},
	}
	for _, r := range rows {
		var args []api.Type
		for _, m := range r.args {
			args = append(args, m.t)
		}
		wantType(t, r.from.text, r.want.t)(types.Subst(r.from.t, strings.Fields(r.names), args))
	}
	wantType(t, "no name", sliceOf(x).t)(types.Subst(sliceOf(x).t, []string{"", "\xff"}, []api.Type{b.t, i.t}))
}

func TestSubstWrongArgs(t *testing.T) {
	b := api.Type{Kind: api.TBool}
	// Too large beside it, so that ErrArg is seen to come first.
	deep := nest(param("T", 1), api.MaxDepth, 0).t
	large := nest(plain(api.TBool), 1, 1).t
	for _, x := range []api.Type{b, deep} {
		wantNone(t, api.ErrArg)(types.Subst(x, []string{"T"}, nil))
		wantNone(t, api.ErrArg)(types.Subst(x, nil, []api.Type{b}))
		wantNone(t, api.ErrArg)(types.Subst(x, []string{"T", "U"}, []api.Type{large}))
		wantNone(t, api.ErrArg)(types.Subst(x, []string{"T"}, []api.Type{large, b}))
		wantNone(t, api.ErrArg)(types.Subst(x, []string{"T", "T"}, []api.Type{large, large}))
		wantNone(t, api.ErrArg)(types.Subst(x, []string{"U", "T", "V", "U"}, []api.Type{b, large, b, b}))
		wantNone(t, api.ErrArg)(types.Subst(x, []string{"", ""}, []api.Type{b, b}))
		wantNone(t, api.ErrArg)(types.Subst(x, []string{"T", "T"}, []api.Type{b}))
	}
}

// TestSubstDepth puts a type of each depth at each depth.
func TestSubstDepth(t *testing.T) {
	x, b := param("T", api.CAny), plain(api.TBool)
	for way := range 5 {
		for outer := range api.MaxDepth + 1 {
			for inner := range api.MaxDepth + 1 {
				from, arg := nest(x, outer, way), nest(b, inner, way+1)
				call := func() (api.Type, api.Errno) { return types.Subst(from.t, []string{"T"}, []api.Type{arg.t}) }
				if outer+inner > api.MaxDepth {
					wantNone(t, api.ErrLarge)(call())
				} else {
					wantType(t, from.text, nest(arg, outer, way).t)(call())
				}
			}
		}
	}
	// A deep type that stands for what is not in t does no harm, nor does one put in where there is room.
	deep := nest(b, api.MaxDepth, 0)
	wantType(t, "unused", sliceOf(b).t)(types.Subst(sliceOf(b).t, []string{"T"}, []api.Type{deep.t}))
	wantNone(t, api.ErrLarge)(types.Subst(funcOf([]made{b}, x).t, []string{"T"}, []api.Type{deep.t}))
}

func TestSubstCells(t *testing.T) {
	x, b := param("T", api.CAny), plain(api.TBool)
	wide := structOf("W", slices.Repeat([]made{b}, 16)...)
	row := func(n int) made { return structOf("R", slices.Repeat([]made{b}, n)...) }
	for n := range 17 {
		// What has 48 cells, 49 or 64 without T, or T many times, is filled up to the limit and beyond.
		for _, from := range []func(made) made{
			func(m made) made { return structOf("P", wide, wide, wide, m) },
			func(m made) made { return sliceOf(structOf("P", m, wide, wide, wide, b)) },
			func(m made) made { return funcOf(nil, structOf("P", m, m, m, m, m, m)) },
			func(m made) made { return structOf("P", b, chanOf(structOf("Q", m, m, m, b))) },
			func(m made) made { return structOf("P", wide, wide, wide, wide, m) },
			func(m made) made { return structOf("P", wide, wide, wide, wide, sliceOf(m)) },
		} {
			t0, want := from(x).t, from(row(n)).t
			if types.Check(t0) != api.OK {
				continue
			}
			if types.Check(want) == api.OK {
				wantType(t, "cells", want)(types.Subst(t0, []string{"T"}, []api.Type{row(n).t}))
			} else {
				wantNone(t, api.ErrLarge)(types.Subst(t0, []string{"T"}, []api.Type{row(n).t}))
			}
		}
	}
	full := structOf("P", wide, wide, wide, x)
	wantType(t, "64", structOf("P", wide, wide, wide, wide).t)(types.Subst(full.t, []string{"T"}, []api.Type{wide.t}))
	wantNone(t, api.ErrLarge)(types.Subst(sliceOf(full).t, []string{"T"}, []api.Type{structOf("X", wide, b).t}))
	// An x of no cells leaves fewer than there were.
	wantType(t, "0", structOf("P", structOf("E")).t)(types.Subst(structOf("P", x).t, []string{"T"}, []api.Type{structOf("E").t}))
}

// TestSubstIsMeasuredFirst: the answer, were it made, would have 16^9 types.
func TestSubstIsMeasuredFirst(t *testing.T) {
	x := param("T", api.CAny)
	bush := func(m made, n int) made {
		for range n {
			m = funcOf(slices.Repeat([]made{m}, 16))
		}
		return m
	}
	wantNone(t, api.ErrLarge)(types.Subst(bush(x, 4).t, []string{"T"}, []api.Type{bush(x, 5).t}))
}

// TestSubstOfAnySort holds what comes of it against the same type that was made with the other in it.
func TestSubstOfAnySort(t *testing.T) {
	for seed := range int64(300) {
		arg := someSound(rand.New(rand.NewSource(seed)), 2)
		from := someSound(rand.New(rand.NewSource(1000+seed)), 4)
		want := put(from.t, map[string]api.Type{"T": arg.t, "_": from.t})
		got, e := types.Subst(from.t, []string{"_", "T"}, []api.Type{from.t, arg.t})
		if types.Check(want) != api.OK {
			wantNone(t, api.ErrLarge)(got, e)
			continue
		}
		wantType(t, from.text, want)(got, e)
	}
}

// put is Subst without limits.
func put(t api.Type, m map[string]api.Type) api.Type {
	if x, ok := m[t.Name]; ok && t.Kind == api.TParam {
		return x
	}
	t.Fields, t.List, t.Res = slices.Clone(t.Fields), slices.Clone(t.List), slices.Clone(t.Res)
	for i := range t.Fields {
		t.Fields[i].Type = put(t.Fields[i].Type, m)
	}
	for i := range t.List {
		t.List[i] = put(t.List[i], m)
	}
	for i := range t.Res {
		t.Res[i] = put(t.Res[i], m)
	}
	return t
}

func TestCopy(t *testing.T) {
	for _, m := range soundOnes() {
		wantType(t, m.text, m.t)(types.Copy(m.t))
		wantType(t, m.text, m.t)(types.Subst(m.t, nil, nil))
	}
}

func wantSame(t *testing.T, at int, want bool, a, b api.Type) {
	t.Helper()
	if got, e := types.Same(a, b); got != want || e != api.OK {
		t.Errorf("%d: Same(%+v, %+v) = %v, %d", at, a, b, got, e)
	}
}

// wantType takes an answer that is want, in all that it is.
func wantType(t *testing.T, what string, want api.Type) func(api.Type, api.Errno) {
	t.Helper()
	return func(got api.Type, e api.Errno) {
		t.Helper()
		if e != api.OK || !reflect.DeepEqual(put(got, nil), put(want, nil)) {
			t.Errorf("%s: %+v, %d, not %+v", what, got, e, want)
		}
	}
}

// wantNone takes an error and an empty type beside it.
func wantNone(t *testing.T, want api.Errno) func(api.Type, api.Errno) {
	t.Helper()
	return func(got api.Type, e api.Errno) {
		t.Helper()
		if e != want || !reflect.DeepEqual(got, api.Type{}) {
			t.Errorf("%+v, %d, not %d", got, e, want)
		}
	}
}
