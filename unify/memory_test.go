package unify_test

import (
	"fmt"
	"math/rand"
	"reflect"
	"slices"
	"testing"

	"mullion/api"
	"mullion/unify"
)

// roomy answers ts in new memory, all lists with spare room, and marks in it.
func roomy(ts []api.Type) []api.Type {
	mark := api.Type{Kind: api.TBool, Name: "spare"}
	to := []api.Type{}
	for _, t := range ts {
		fields := []api.Field{}
		for _, f := range t.Fields {
			fields = append(fields, api.Field{Name: f.Name, Type: roomy(list(f.Type))[0]})
		}
		t.Fields = append(fields, api.Field{Name: "spare", Type: mark})[:len(fields)]
		t.List, t.Res = roomy(t.List), roomy(t.Res)
		to = append(to, t)
	}
	return append(to, mark, mark)[:len(ts)]
}

// whole answers ts with spare room shown, in new memory.
func whole(ts []api.Type) []api.Type {
	to := []api.Type{}
	for _, t := range ts[:cap(ts)] {
		fields := []api.Field{}
		for _, f := range t.Fields[:cap(t.Fields)] {
			fields = append(fields, api.Field{Name: f.Name, Type: whole(list(f.Type))[0]})
		}
		t.Fields, t.List, t.Res = fields, whole(t.List), whole(t.Res)
		to = append(to, t)
	}
	return to
}

// places tells where the items of ts and of all lists in it stand, spare room included; each once for each list it is in.
func places(ts []api.Type) []any {
	var all []any
	ts = ts[:cap(ts)]
	for i := range ts {
		all = append(all, &ts[i])
		all = append(all, within(ts[i])...)
	}
	return all
}

// within is places of the lists in t.
func within(t api.Type) []any {
	all := append(places(t.List), places(t.Res)...)
	fields := t.Fields[:cap(t.Fields)]
	for i := range fields {
		all = append(all, &fields[i])
		all = append(all, within(fields[i].Type)...)
	}
	return all
}

// apart tells whether no item stands in two of these lists, or in two lists of one of them.
func apart(lists ...[]api.Type) bool {
	seen := map[any]int{}
	for _, l := range lists {
		for _, p := range places(l) {
			seen[p]++
			if seen[p] > 1 {
				return false
			}
		}
	}
	return true
}

// someCalls: what is handed in, by chance: most of it goes well.
func someCalls(times int, call func(names []string, params, want, have []api.Type)) {
	r := rand.New(rand.NewSource(11))
	for range times {
		names := []string{"T", "U", "V", "_", "Ärm"}[:r.Intn(6)]
		want, have := somePairs(r, names)
		var params []api.Type
		for _, n := range names {
			params = append(params, param(n, api.CAny))
			want, have = append(want, param(n, api.CAny)), append(have, someSound(r, 2))
		}
		if r.Intn(8) == 0 {
			want = append(want, api.Type{})
		}
		call(append(slices.Clone(names), "spare", "spare")[:len(names)], roomy(params), roomy(want), roomy(have))
	}
}

func TestArgumentsAreLeftAlone(t *testing.T) {
	someCalls(2000, func(names []string, params, want, have []api.Type) {
		all := func() [][]api.Type { return [][]api.Type{whole(params), whole(want), whole(have)} }
		before, called := all(), slices.Clone(names[:cap(names)])
		_, _, _ = unify.Unify(names, want, have)
		_, _, _ = unify.Infer(params, want, have)
		if !reflect.DeepEqual(before, all()) || !slices.Equal(called, names[:cap(names)]) {
			t.Fatalf("an argument is changed: %q, %+v, %+v, %+v", names, params, want, have)
		}
	})
}

func TestAnswersShareNothing(t *testing.T) {
	well := 0
	someCalls(2000, func(names []string, params, want, have []api.Type) {
		a, known, e := unify.Unify(names, want, have)
		b, again, _ := unify.Unify(names, want, have)
		c, _, _ := unify.Infer(params, want, have)
		d, _, _ := unify.Infer(params, want, have)
		if e == api.OK && len(names) > 0 {
			well++
			if &known[0] == &again[0] {
				t.Errorf("what is known is answered in one list twice")
			}
		}
		if !apart(params, want, have, a, b, c, d) {
			t.Fatalf("what is answered shares memory: %q, %+v, %+v", names, want, have)
		}
	})
	if well < 200 {
		t.Errorf("only %d went well", well)
	}
}

// TestOneTypeForMany: a type that is had for several names, or lies in several lists of one type, is copied for each.
func TestOneTypeForMany(t *testing.T) {
	T, U := param("T", api.CAny), param("U", api.CAny)
	one := roomy(list(sliceOf(structOf("P", "ab", plain(1), funcOf(list(plain(2)), plain(3))))))
	both := api.Type{Kind: api.TFunc, List: one, Res: one}
	have := list(one[0], one[0], both)
	want := list(T, U, funcOf(list(T), U))
	a, _, e := unify.Unify([]string{"T", "U"}, want, have)
	b, _, f := unify.Infer(list(T, U), want, have)
	if e != api.OK || f != api.OK || !apart(a, b, one) {
		t.Errorf("one type is answered for two names: %d, %d", e, f)
	}
	c, _, e := unify.Unify([]string{"T"}, list(T), list(both))
	if e != api.OK || !apart(c, one) {
		t.Errorf("a list that was shared is shared in the answer: %d", e)
	}
	// What is wanted and had in one list.
	l := roomy(list(T, U))
	d, _, e := unify.Infer(l, l, l)
	if e != api.OK || !apart(d, l) {
		t.Errorf("the answer shares memory with the one list: %d", e)
	}
}

// TestEmptyLists: nil and empty are the same.
func TestEmptyLists(t *testing.T) {
	empty := func(t api.Type) api.Type {
		t.Fields, t.List, t.Res = slices.Concat([]api.Field{}, t.Fields), slices.Concat(list(), t.List), slices.Concat(list(), t.Res)
		if len(t.List) == 0 {
			t.List = make([]api.Type, 0, 3)
		}
		if len(t.Fields) == 0 {
			t.Fields = make([]api.Field, 0, 2)
		}
		if len(t.Res) == 0 {
			t.Res = []api.Type{}
		}
		return t
	}
	names := []string{"T", "W"}
	for n, x := range smallOnes() {
		for _, w := range list(param("T", 1), x) {
			want := unifyOf(names, list(w), list(x))
			wantAnswer(t, fmt.Sprint("small ", n), unifyOf(names, list(w), list(empty(x))), want)
			wantAnswer(t, fmt.Sprint("small ", n), unifyOf(names, list(empty(w)), list(x)), want)
			wantAnswer(t, fmt.Sprint("small ", n), unifyOf(names, list(empty(w), empty(w)), list(x, empty(x))), want)
		}
	}
	none := list()
	wantAnswer(t, "nothing", unifyOf([]string{}, none, nil), answer{})
	wantAnswer(t, "nothing", unifyOf(nil, nil, none), answer{})
	wantAnswer(t, "nothing", inferOf(none, none, nil), answer{})
	wantAnswer(t, "nothing", inferOf(nil, nil, none), answer{})
}
