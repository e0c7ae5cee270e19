package unify_test

import (
	"fmt"
	"math/rand"
	"slices"
	"strings"

	"mullion/api"
	"mullion/types"
)

// The model goes through no two types side by side: it lays each out as what stands at which place in it, and holds places against places.

// answer is what a call answers: of Unify known, of Infer at.
type answer struct {
	args  []api.Type
	known []bool
	at    int
	e     api.Errno
}

// layOut puts the parts of t, each at its place, into parts.
func layOut(parts map[string]api.Type, place string, t api.Type) {
	parts[place] = t
	for i, f := range t.Fields {
		layOut(parts, fmt.Sprintf("%s.f%d", place, i), f.Type)
	}
	for i, p := range t.List {
		layOut(parts, fmt.Sprintf("%s.l%d", place, i), p)
	}
	for i, p := range t.Res {
		layOut(parts, fmt.Sprintf("%s.r%d", place, i), p)
	}
}

// label is all of t but its parts.
func label(t api.Type) string {
	text := fmt.Sprintf("%d %q %d %d %d", t.Kind, t.Name, t.Con, len(t.List), len(t.Res))
	for _, f := range t.Fields {
		text += fmt.Sprintf(" %q", f.Name)
	}
	return text
}

// spelt is all of t.
func spelt(t api.Type) string {
	parts := map[string]api.Type{}
	layOut(parts, "", t)
	var lines []string
	for place, p := range parts {
		lines = append(lines, place+" "+label(p))
	}
	slices.Sort(lines)
	return strings.Join(lines, "\n")
}

// modelStands answers what names stand for in types that match, and whether they do.
func modelStands(names []string, want, have []api.Type) (map[string]api.Type, bool) {
	wanted, had := map[string]api.Type{}, map[string]api.Type{}
	for i, w := range want {
		layOut(wanted, fmt.Sprint(i), w)
		layOut(had, fmt.Sprint(i), have[i])
	}
	stands := map[string]api.Type{}
	for place, w := range wanted {
		h, there := had[place]
		if !there {
			return nil, false
		}
		if w.Kind == api.TParam && slices.Contains(names, w.Name) {
			if s, ok := stands[w.Name]; ok && spelt(s) != spelt(h) {
				return nil, false
			}
			stands[w.Name] = h
		} else if label(w) != label(h) {
			return nil, false
		}
	}
	return stands, true
}

// modelPairs is what Unify and Infer have in common, for types that are sound.
func modelPairs(names []string, want, have []api.Type) answer {
	twice := slices.Clone(names)
	slices.Sort(twice)
	if len(slices.Compact(twice)) != len(names) || len(want) != len(have) {
		return answer{e: api.ErrArg}
	}
	for n := range want {
		if _, ok := modelStands(names, want[:n+1], have[:n+1]); !ok {
			return answer{at: n, e: api.ErrType}
		}
	}
	stands, _ := modelStands(names, want, have)
	out := answer{}
	for _, n := range names {
		s, ok := stands[n]
		out.args, out.known = append(out.args, s), append(out.known, ok)
	}
	return out
}

func modelUnify(names []string, want, have []api.Type) answer {
	out := modelPairs(names, want, have)
	out.at = 0
	return out
}

func modelInfer(params, want, have []api.Type) answer {
	var names []string
	for _, p := range params {
		names = append(names, p.Name)
	}
	out := modelPairs(names, want, have)
	known := out.known
	out.known = nil
	if out.e != api.OK {
		return out
	}
	if n := slices.Index(known, false); n >= 0 {
		return answer{at: n, e: api.ErrInfer}
	}
	for n, a := range out.args {
		if fits, _ := types.Fits(a, params[n].Con); !fits {
			return answer{at: len(want) + n, e: api.ErrType}
		}
	}
	return out
}

// Types, made short.

func plain(kind int) api.Type { return api.Type{Kind: kind} }

func param(name string, con int) api.Type { return api.Type{Kind: api.TParam, Name: name, Con: con} }

func sliceOf(t api.Type) api.Type { return api.Type{Kind: api.TSlice, List: []api.Type{t}} }

func chanOf(t api.Type) api.Type { return api.Type{Kind: api.TChan, List: []api.Type{t}} }

func funcOf(takes []api.Type, res ...api.Type) api.Type {
	return api.Type{Kind: api.TFunc, List: takes, Res: res}
}

// structOf makes a struct whose fields have the names in fields, of one letter each.
func structOf(name, fields string, ts ...api.Type) api.Type {
	out := api.Type{Kind: api.TStruct, Name: name}
	for i, t := range ts {
		out.Fields = append(out.Fields, api.Field{Name: fields[i : i+1], Type: t})
	}
	return out
}

func list(ts ...api.Type) []api.Type { return ts }

// nest puts t into n types, each by one of the five ways in which a type has another in it.
func nest(t api.Type, n, way int) api.Type {
	for i := range n {
		switch (way + i) % 5 {
		case 0:
			t = sliceOf(t)
		case 1:
			t = chanOf(t)
		case 2:
			t = structOf("S", "ab", plain(api.TBool), t)
		case 3:
			t = funcOf(list(plain(api.TInt8), t))
		case 4:
			t = funcOf(nil, t)
		}
	}
	return t
}

// smallOnes: all types of some atoms, and of one or two of them.
func smallOnes() []api.Type {
	atoms := list(plain(api.TBool), plain(api.TInt8), param("T", api.CAny), param("T", api.CInteger), param("U", api.CAny), param("V", api.CComparable), structOf("T", ""))
	all := slices.Clone(atoms)
	for _, a := range atoms {
		all = append(all, sliceOf(a), chanOf(a), funcOf(list(a)), funcOf(nil, a), structOf("P", "a", a), structOf("P", "b", a), structOf("T", "a", a))
		for _, b := range atoms {
			all = append(all, funcOf(list(a, b)), funcOf(list(a), b), structOf("P", "ab", a, b))
		}
	}
	return append(all, funcOf(nil), structOf("P", ""))
}

// someSound makes a sound type, at most deep types within one another.
func someSound(r *rand.Rand, deep int) api.Type {
	if deep == 0 || r.Intn(6) == 0 {
		if r.Intn(2) == 0 {
			return param([]string{"T", "U", "V", "_", "Ärm"}[r.Intn(5)], 1+r.Intn(3))
		}
		return plain(1 + r.Intn(7))
	}
	var some []api.Type
	for range r.Intn(4) {
		some = append(some, someSound(r, deep-1))
	}
	switch r.Intn(5) {
	case 0:
		return sliceOf(someSound(r, deep-1))
	case 1:
		return chanOf(someSound(r, deep-1))
	case 2:
		return funcOf(some)
	case 3:
		return funcOf(some, someSound(r, deep-1))
	}
	if t := structOf([]string{"P", "Q", "T"}[r.Intn(3)], "abc", some...); types.Check(t) == api.OK {
		return t
	}
	return structOf("E", "")
}

// changed answers t with one of its parts, whichever comes by chance, made another.
func changed(r *rand.Rand, t api.Type) api.Type {
	t, _ = types.Copy(t)
	var holds []*api.Type
	var look func(t *api.Type)
	look = func(t *api.Type) {
		holds = append(holds, t)
		for i := range t.Fields {
			look(&t.Fields[i].Type)
		}
		for i := range t.List {
			look(&t.List[i])
		}
		for i := range t.Res {
			look(&t.Res[i])
		}
	}
	look(&t)
	p := holds[r.Intn(len(holds))]
	change(r, p)
	return t
}

// change makes another type of p, which is sound or not.
func change(r *rand.Rand, p *api.Type) {
	switch r.Intn(7) {
	case 0:
		p.Name = []string{"T", "U", "P"}[r.Intn(3)]
	case 1:
		p.Con = r.Intn(4)
	case 2:
		p.List = append(p.List, plain(1+r.Intn(7)))
	case 3:
		p.Res = append(p.Res, plain(1+r.Intn(7)))[:r.Intn(len(p.Res)+1)]
	case 4:
		if len(p.Fields) > 0 {
			p.Fields[r.Intn(len(p.Fields))].Name = "z"
		}
	case 5:
		p.Kind = []int{api.TSlice, api.TChan, api.TBool, api.TInt64}[r.Intn(4)]
	default:
		*p = someSound(r, 1)
	}
}
