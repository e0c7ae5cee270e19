package typing_test

import (
	"reflect"
	"slices"
	"strings"
	"testing"

	"mullion/api"
	"mullion/parse"
	"mullion/types"
	"mullion/typing"
)

// known answers what is known of a program that has no fault.
func known(t *testing.T, text string) typing.Program {
	t.Helper()
	n, _, e := parse.Parse(text)
	if e != api.OK {
		t.Fatalf("%d of %s", e, text)
	}
	p, at, e := typing.Judge(n)
	if e != api.OK || at != 0 {
		t.Fatalf("%d at %d of %s", e, at, text)
	}
	return p
}

// told answers types as texts.
func told(list []*typing.Type) string {
	var all []string
	for _, w := range typing.Written(list) {
		s, _ := types.Text(w)
		all = append(all, s)
	}
	return strings.Join(all, " ")
}

// TestNeeds: functions know which they name, in the order of the text, with types of their own type parameters.
func TestNeeds(t *testing.T) {
	p := known(t, "func f[T any, U any](x T, y U) T { f(f(y, 1), g); g(); return x }\nfunc g() { g := 1; g = 2 }\nfunc main() { x := g; f(f(true, x), 1) }")
	want := map[string][]string{"f": {"f U func()", "f U int64", "g ", "g "}, "g": nil, "main": {"g ", "f bool int64", "f bool func()"}}
	for _, h := range p.Heads {
		var got []string
		for _, n := range h.Needs {
			got = append(got, n.Of.Name+" "+told(n.Args))
		}
		if !slices.Equal(got, want[h.Name]) {
			t.Errorf("%s needs %q, not %q", h.Name, got, want[h.Name])
		}
	}
	if len(p.Heads) != 3 || p.Main != p.Heads[2] {
		t.Errorf("%d heads, main is %v", len(p.Heads), p.Main)
	}
}

func TestSig(t *testing.T) {
	p := known(t, "type P struct { x int; y []bool }\nfunc f[T integer](x P, y func(T) chan T) []P { panic(1) }\nfunc main() { }")
	T := api.Type{Kind: api.TParam, Name: "T", Con: api.CInteger}
	s := api.Type{Kind: api.TStruct, Name: "P", Fields: []api.Field{{Name: "x", Type: api.Type{Kind: api.TInt64}}, {Name: "y", Type: api.Type{Kind: api.TSlice, List: []api.Type{{Kind: api.TBool}}}}}}
	f := api.Type{Kind: api.TFunc, List: []api.Type{T}, Res: []api.Type{{Kind: api.TChan, List: []api.Type{T}}}}
	want := []api.Sig{{Name: "f", TParams: []api.Type{T}, Params: []api.Type{s, f}, Res: []api.Type{{Kind: api.TSlice, List: []api.Type{s}}}}, {Name: "main"}}
	for i, h := range p.Heads {
		if got := h.Sig(); !reflect.DeepEqual(got, want[i]) {
			t.Errorf("%+v, not %+v", got, want[i])
		}
	}
}

func TestReplacer(t *testing.T) {
	p := known(t, "func f[T any, U any](x T, y []U, z func(U, bool) chan T) { }\nfunc main() { f[[]int, bool](make([]int, 1), make([]bool, 1), func(x bool, y bool) chan []int { panic(1) }) }")
	f, args := p.Heads[0], p.Main.Needs[0].Args
	replace := p.Replacer(f.TypeParams, args)
	var list []*typing.Type
	for _, x := range f.Takes {
		list = append(list, replace(x))
	}
	if got, want := told(list), "[]int64 []bool func(bool, bool) chan []int64"; got != want {
		t.Errorf("%s, not %s", got, want)
	}
	// Types that are the same are one.
	if again := p.Replacer(f.TypeParams, args)(f.Takes[2]); again != list[2] || again.Number == list[1].Number {
		t.Errorf("the type numbered %d is another than that numbered %d", again.Number, list[2].Number)
	}
	for deep := range 9 {
		p := known(t, "func f[T any](x []T) { }\nfunc g[T any]() { }\nfunc main() { g["+strings.Repeat("[]", deep)+"int]() }")
		x := p.Replacer(p.Heads[0].TypeParams, p.Main.Needs[0].Args)(p.Heads[0].Takes[0])
		if isSound := deep < 8; isSound != (x != nil) {
			t.Errorf("a type of depth %d: %v", deep+1, x)
		}
	}
}

// TestFaults: nothing is known of a program with a fault.
func TestFaults(t *testing.T) {
	for text, want := range map[string]api.Errno{"": api.ErrName, "func main() { x := 1; x = true }": api.ErrType} {
		n, _, _ := parse.Parse(text)
		if p, _, e := typing.Judge(n); e != want || !reflect.DeepEqual(p, typing.Program{}) {
			t.Errorf("%d, %v", e, p)
		}
	}
	if p, at, e := typing.Judge(api.Node{At: 3}); e != api.ErrForm || at != 0 || !reflect.DeepEqual(p, typing.Program{}) {
		t.Errorf("%d at %d, %v", e, at, p)
	}
}
