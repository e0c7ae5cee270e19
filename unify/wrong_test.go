package unify_test

import (
	"fmt"
	"slices"
	"strings"
	"testing"

	"mullion/api"
	"mullion/types"
)

// unsoundOnes: types that are not sound, for what they are or for what is in them.
func unsoundOnes() []api.Type {
	b := plain(api.TBool)
	one := list(b)
	tops := []api.Type{
		{}, {Kind: -1}, {Kind: api.TBox, List: one}, {Kind: 14}, {Kind: -1 << 63}, {Kind: 1<<63 - 1},
		{Kind: api.TBool, Name: "T"}, {Kind: api.TInt8, Con: 1}, {Kind: api.TInt64, List: one}, {Kind: api.TUint8, Res: one}, {Kind: 4, Fields: []api.Field{{Name: "a", Type: b}}},
		{Kind: api.TSlice}, {Kind: api.TChan}, {Kind: api.TSlice, List: list(b, b)}, {Kind: api.TChan, List: one, Name: "T"}, {Kind: api.TSlice, List: one, Res: one},
		{Kind: api.TFunc, Res: list(b, b)}, {Kind: api.TFunc, Name: "T"}, funcOf(slices.Repeat(one, 17)),
		param("T", 0), param("T", 4), param("T", -1), param("", 1), param("9", 1), param(strings.Repeat("n", 65), 1), {Kind: api.TParam, Name: "T", Con: 1, List: one},
		structOf("", "a", b), structOf("P", "aa", b, b), structOf("P", "9", b), structOf("P", "abcdefghijklmnopq", slices.Repeat(one, 17)...), {Kind: api.TStruct, Name: "P", Con: 1},
	}
	all := slices.Clone(tops)
	for i, t := range tops {
		all = append(all, nest(t, 1, i), nest(t, 4, i))
	}
	for way := range 5 {
		all = append(all, nest(b, api.MaxDepth+1, way), nest(param("T", 1), 2000, way))
	}
	wide := structOf("W", "abcdefghijklmnop", slices.Repeat(one, 16)...)
	over := structOf("O", "abcde", wide, wide, wide, wide, b)
	for _, kind := range []int{api.TSlice, api.TChan, api.TFunc} {
		l := make([]api.Type, 1)
		l[0] = api.Type{Kind: kind, List: l}
		all = append(all, l[0])
	}
	f := make([]api.Field, 1)
	f[0] = api.Field{Name: "a", Type: api.Type{Kind: api.TStruct, Name: "P", Fields: f}}
	return append(all, over, sliceOf(over), f[0].Type)
}

// TestUnsound: ErrForm wherever the type stands, whatever else is wrong.
func TestUnsound(t *testing.T) {
	none := answer{e: api.ErrForm}
	T, b, i := param("T", api.CAny), plain(api.TBool), plain(api.TInt8)
	one, twice := []string{"T"}, []string{"T", "T"}
	for n, x := range unsoundOnes() {
		if types.Check(x) != api.ErrForm {
			t.Fatalf("%d is sound", n)
		}
		what := fmt.Sprint("unsound ", n)
		for _, pair := range [][2][]api.Type{
			{list(x), list(b)}, {list(T), list(x)}, {list(x), list(x)}, {list(T, b, x), list(b, b, b)}, {list(T, T, T), list(b, b, x)},
			// Ahead of ErrArg.
			{list(x), nil}, {nil, list(x)}, {list(x), list(b, b)}, {list(b, T, T), list(x)},
			// Ahead of ErrType, and behind the pair that does not match.
			{list(b, x), list(i, b)}, {list(b, T), list(i, x)}, {list(T, T, T), list(b, i, x)},
		} {
			wantAnswer(t, what, unifyOf(one, pair[0], pair[1]), none)
			wantAnswer(t, what, unifyOf(nil, pair[0], pair[1]), none)
			wantAnswer(t, what, unifyOf(twice, pair[0], pair[1]), none)
			wantAnswer(t, what, inferOf(list(T), pair[0], pair[1]), none)
			wantAnswer(t, what, inferOf(list(T, param("U", 1)), pair[0], pair[1]), none)
			wantAnswer(t, what, inferOf(list(T, T), pair[0], pair[1]), none)
			wantAnswer(t, what, inferOf(nil, pair[0], pair[1]), none)
		}
		wantNoParam(t, what, x)
	}
}

// TestNoParams: sound types that are no TParams.
func TestNoParams(t *testing.T) {
	for n, x := range smallOnes() {
		if x.Kind != api.TParam {
			wantNoParam(t, fmt.Sprint("small ", n), x)
		}
	}
	wantNoParam(t, "T in a slice", sliceOf(param("T", 1)))
	wantNoParam(t, "a struct T", structOf("T", "a", plain(1)))
}

// wantNoParam: ErrForm from Infer with x among its parameters, whatever else is wrong.
func wantNoParam(t *testing.T, what string, x api.Type) {
	t.Helper()
	none := answer{e: api.ErrForm}
	T, b, i := param("T", api.CAny), plain(api.TBool), plain(api.TInt8)
	for _, params := range [][]api.Type{list(x), list(T, x), list(x, T), list(T, T, x), list(x, x)} {
		for _, pair := range [][2][]api.Type{{nil, nil}, {list(T), list(b)}, {list(b), list(i)}, {list(b), nil}, {list(T, T), list(b)}} {
			wantAnswer(t, what, inferOf(params, pair[0], pair[1]), none)
		}
	}
}
