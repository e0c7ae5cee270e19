package code_test

import (
	"bytes"
	"math/rand"
	"reflect"
	"slices"
	"testing"

	"mullion/api"
	"mullion/code"
)

// roomy answers m in new memory, no list nil, and all with spare room that has marks in it.
func roomy(m api.Module) api.Module {
	var out api.Module
	var fill func(to, from reflect.Value)
	fill = func(to, from reflect.Value) {
		switch from.Kind() {
		case reflect.Struct:
			for i := range from.NumField() {
				fill(to.Field(i), from.Field(i))
			}
		case reflect.Slice:
			long := from.Len()
			to.Set(reflect.MakeSlice(to.Type(), long+2, long+2))
			for i := range long {
				fill(to.Index(i), from.Index(i))
			}
			mark(to.Index(long))
			mark(to.Index(long + 1))
			to.Set(to.Slice(0, long))
		default:
			to.Set(from)
		}
	}
	fill(reflect.ValueOf(&out).Elem(), reflect.ValueOf(m))
	return out
}

// mark makes all numbers of v another one than 0.
func mark(v reflect.Value) {
	visit("", v, func(_ string, v reflect.Value) {
		if v.CanInt() {
			v.SetInt(-77)
		}
	})
}

// whole answers m with its spare room shown, in new memory.
func whole(m api.Module) api.Module {
	var out api.Module
	copyTo(reflect.ValueOf(&out).Elem(), reflect.ValueOf(m), func(l reflect.Value) int { return l.Cap() })
	return out
}

// apart tells whether no item stands in two lists of these modules, spare room included.
func apart(ms ...*api.Module) bool {
	seen := map[any]int{}
	isApart := true
	for _, m := range ms {
		var look func(v reflect.Value)
		look = func(v reflect.Value) {
			switch v.Kind() {
			case reflect.Struct:
				for i := range v.NumField() {
					look(v.Field(i))
				}
			case reflect.Slice:
				v = v.Slice(0, v.Cap())
				for i := range v.Len() {
					p := v.Index(i).Addr().Interface()
					seen[p]++
					isApart = isApart && seen[p] == 1
					look(v.Index(i))
				}
			}
		}
		look(reflect.ValueOf(m).Elem())
	}
	return isApart
}

// someModules: sound ones, unsound ones, and some that have no bytes.
func someModules() []api.Module {
	all := []api.Module{{}, full(), shapes(shape(1, 0), shape(11, 1, 0, 0)), functions(api.Func{Locals: []int{1, 2}, Params: 1})}
	for seed := range 200 {
		r := rand.New(rand.NewSource(int64(seed)))
		m := someModule(r)
		all = append(all, m, someSound(r))
		_, values := spots(&m)
		if v := values[r.Intn(len(values))]; v.CanInt() {
			bad := clone(m)
			_, values = spots(&bad)
			for _, v := range values {
				if v.CanInt() && r.Intn(3) == 0 {
					v.SetInt(-2)
				}
			}
			all = append(all, bad)
		}
	}
	return all
}

func TestArgumentsAreLeftAlone(t *testing.T) {
	for n, m := range someModules() {
		x := roomy(m)
		before := whole(x)
		_ = code.Check(x)
		_, _ = code.Encode(x)
		_ = code.Same(x, x)
		_ = code.Same(x, full())
		_, _ = code.Cells(x, n%3)
		if !reflect.DeepEqual(before, whole(x)) {
			t.Errorf("%d: %+v is changed", n, m)
		}
		b, _ := modelEncode(m)
		b = append(b, 77, 78)
		kept := slices.Clone(b)
		_, _, _ = code.Decode(b[:len(b)-2])
		_, _, _ = code.Decode(b[:len(b)/2])
		if !slices.Equal(b, kept) {
			t.Errorf("%d: bytes are changed", n)
		}
	}
}

func TestAnswersShareNothing(t *testing.T) {
	for n, m := range someModules() {
		b, e := code.Encode(m)
		if e != api.OK {
			continue
		}
		x, _, _ := code.Decode(b)
		y, _, _ := code.Decode(b)
		if !apart(&m, &x, &y) {
			t.Errorf("%d: what Decode answers shares memory", n)
		}
		// Bytes that are changed, spare room included, change no other answer.
		again, _ := code.Encode(m)
		kept := slices.Clone(again)
		b = b[:cap(b)]
		for i := range b {
			b[i] = 255
		}
		if !slices.Equal(again, kept) || !code.Same(x, m) {
			t.Errorf("%d: what is answered shares memory with bytes", n)
		}
	}
}

// TestSharedLists: a module whose lists are one list.
func TestSharedLists(t *testing.T) {
	one := []int{0, 0}
	m := api.Module{Types: []api.Shape{shape(1, 0), {Kind: 8, List: one}, {Kind: 11, List: one}}, Funcs: []api.Func{{Locals: one, Caps: one}, {Locals: one}}}
	if e := code.Check(m); e != api.OK {
		t.Errorf("Check = %d", e)
	}
	b, e := code.Encode(m)
	want, _ := modelEncode(m)
	if e != api.OK || !bytes.Equal(b, want) {
		t.Errorf("Encode = %v, %d", b, e)
	}
	x, _, e := code.Decode(b)
	if e != api.OK || !apart(&x) || !code.Same(x, m) {
		t.Errorf("Decode = %+v, %d", x, e)
	}
}
