package types_test

import (
	"reflect"
	"testing"

	"mullion/api"
	"mullion/types"
)

// roomy answers t with lists that have spare room, and marks in it.
func roomy(t api.Type) api.Type {
	mark := api.Type{Kind: api.TBool, Name: "spare"}
	list := func(from []api.Type) []api.Type {
		to := []api.Type{}
		for _, x := range from {
			to = append(to, roomy(x))
		}
		return append(to, mark, mark)[:len(to)]
	}
	fields := []api.Field{}
	for _, f := range t.Fields {
		fields = append(fields, api.Field{Name: f.Name, Type: roomy(f.Type)})
	}
	t.Fields = append(fields, api.Field{Name: "spare", Type: mark})[:len(fields)]
	t.List, t.Res = list(t.List), list(t.Res)
	return t
}

// whole answers t with its spare room shown, in new memory.
func whole(t api.Type) api.Type {
	list := func(from []api.Type) []api.Type {
		to := []api.Type{}
		for _, x := range from[:cap(from)] {
			to = append(to, whole(x))
		}
		return to
	}
	fields := []api.Field{}
	for _, f := range t.Fields[:cap(t.Fields)] {
		fields = append(fields, api.Field{Name: f.Name, Type: whole(f.Type)})
	}
	t.Fields, t.List, t.Res = fields, list(t.List), list(t.Res)
	return t
}

// places tells where the items of all lists of t stand, spare room included; each once for each list it is in.
func places(t api.Type) []any {
	var all []any
	fields := t.Fields[:cap(t.Fields)]
	for i := range fields {
		all = append(all, &fields[i])
		all = append(all, places(fields[i].Type)...)
	}
	for _, l := range [][]api.Type{t.List[:cap(t.List)], t.Res[:cap(t.Res)]} {
		for i := range l {
			all = append(all, &l[i])
			all = append(all, places(l[i])...)
		}
	}
	return all
}

// apart tells whether no item stands in two lists of these types.
func apart(ts ...api.Type) bool {
	seen := map[any]int{}
	for _, t := range ts {
		for _, p := range places(t) {
			seen[p]++
			if seen[p] > 1 {
				return false
			}
		}
	}
	return true
}

func TestArgumentsAreLeftAlone(t *testing.T) {
	arg := roomy(funcOf([]made{structOf("P", plain(1))}, sliceOf(param("T", 1))).t)
	for _, m := range soundOnes() {
		x := roomy(m.t)
		names := []string{"T", "U", "spare"}[:2]
		args := []api.Type{arg, x, {Name: "spare"}}[:2]
		before := []api.Type{whole(x), whole(arg)}
		_ = types.Check(x)
		_, _ = types.Same(x, arg)
		_, _ = types.Text(x)
		_, _ = types.Cells(x)
		_, _ = types.Depth(x)
		_, _ = types.Comparable(x)
		_, _ = types.Fits(x, api.CComparable)
		_, _ = types.Params(x)
		_, _ = types.Subst(x, names, args)
		_, _ = types.Copy(x)
		if !reflect.DeepEqual(before, []api.Type{whole(x), whole(arg)}) {
			t.Errorf("%s is changed", m.text)
		}
		if !reflect.DeepEqual(names[:3], []string{"T", "U", "spare"}) || args[:3][2].Name != "spare" {
			t.Errorf("%s: the lists of Subst are changed: %q, %+v", m.text, names[:3], args[:3])
		}
	}
}

func TestAnswersShareNothing(t *testing.T) {
	arg := roomy(funcOf([]made{structOf("P", plain(1), chanOf(plain(2)))}, sliceOf(param("T", 1))).t)
	for _, m := range soundOnes() {
		x := roomy(m.t)
		c, _ := types.Copy(x)
		d, _ := types.Copy(x)
		s, _ := types.Subst(x, []string{"T"}, []api.Type{arg})
		again, _ := types.Subst(x, []string{"T"}, []api.Type{arg})
		if !apart(x, arg, c, d, s, again) {
			t.Errorf("what is answered for %s shares memory", m.text)
		}
	}
	// One type in many places is copied for each.
	twice := roomy(funcOf([]made{param("T", 1), param("T", 2)}, sliceOf(param("T", 3))).t)
	if s, e := types.Subst(twice, []string{"T"}, []api.Type{arg}); e != api.OK || !apart(twice, arg, s) {
		t.Errorf("Subst shares what it puts into several places: %d", e)
	}
	one := []api.Type{{Kind: api.TBool}}
	both := api.Type{Kind: api.TFunc, List: one, Res: one}
	if c, e := types.Copy(both); e != api.OK || !apart(c, api.Type{List: one}) {
		t.Errorf("Copy shares what was shared: %d", e)
	}
	l, _ := types.Params(twice)
	k, _ := types.Params(twice)
	if &l[0] == &k[0] {
		t.Errorf("Params answers one list twice")
	}
}

// TestTypeInItself: a list that has itself in it is too deep for any type.
func TestTypeInItself(t *testing.T) {
	for _, kind := range []int{api.TSlice, api.TChan, api.TFunc} {
		l := make([]api.Type, 1)
		l[0] = api.Type{Kind: kind, List: l}
		if e := types.Check(l[0]); e != api.ErrForm {
			t.Errorf("Check of a type in itself = %d", e)
		}
	}
}
