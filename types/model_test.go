package types_test

import (
	"math/rand"
	"slices"
	"strings"

	"mullion/api"
)

// Types are made here together with what the chapter says of them, from the inside outwards, so that the tests hold answers against what needs no going through.

type made struct {
	t          api.Type
	text       string
	cells      int
	depth      int
	comparable bool
	whole      bool
	params     []string
}

func plain(kind int) made {
	texts := []string{"", "bool", "int8", "uint8", "int32", "uint32", "int64", "uint64"}
	return made{t: api.Type{Kind: kind}, text: texts[kind], cells: 1, comparable: true, whole: kind != api.TBool}
}

func param(name string, con int) made {
	return made{
		t:    api.Type{Kind: api.TParam, Name: name, Con: con},
		text: name, cells: 1, comparable: con != api.CAny, whole: con == api.CInteger, params: []string{name},
	}
}

func sliceOf(m made) made {
	return made{
		t:    api.Type{Kind: api.TSlice, List: []api.Type{m.t}},
		text: "[]" + m.text, cells: 1, depth: m.depth + 1, params: m.params,
	}
}

func chanOf(m made) made {
	return made{
		t:    api.Type{Kind: api.TChan, List: []api.Type{m.t}},
		text: "chan " + m.text, cells: 1, depth: m.depth + 1, comparable: true, params: m.params,
	}
}

func structOf(name string, fields ...made) made {
	out := made{t: api.Type{Kind: api.TStruct, Name: name}, text: name, comparable: true}
	for i, m := range fields {
		out.t.Fields = append(out.t.Fields, api.Field{Name: "f" + string(rune('a'+i)), Type: m.t})
		out.cells += m.cells
		out.comparable = out.comparable && m.comparable
		out.take(m)
	}
	return out
}

func funcOf(takes []made, res ...made) made {
	out := made{t: api.Type{Kind: api.TFunc}, cells: 1}
	var texts []string
	for _, m := range takes {
		out.t.List = append(out.t.List, m.t)
		texts = append(texts, m.text)
		out.take(m)
	}
	out.text = "func(" + strings.Join(texts, ", ") + ")"
	for _, m := range res {
		out.t.Res = append(out.t.Res, m.t)
		out.text += " " + m.text
		out.take(m)
	}
	return out
}

// take: out has m in it.
func (out *made) take(m made) {
	out.depth = max(out.depth, m.depth+1)
	for _, n := range m.params {
		if !slices.Contains(out.params, n) {
			out.params = append(slices.Clip(out.params), n)
		}
	}
}

// nest puts m into n types, each by one of the five ways in which a type has another in it.
func nest(m made, n, way int) made {
	for i := range n {
		switch (way + i) % 5 {
		case 0:
			m = sliceOf(m)
		case 1:
			m = chanOf(m)
		case 2:
			m = structOf("S", plain(api.TBool), m)
		case 3:
			m = funcOf([]made{plain(api.TInt8), m})
		case 4:
			m = funcOf(nil, m)
		}
	}
	return m
}

// someSound makes a sound type, at most deep types within one another.
func someSound(r *rand.Rand, deep int) made {
	if deep == 0 || r.Intn(6) == 0 {
		if r.Intn(3) == 0 {
			return param([]string{"T", "U", "V", "_", "Ärm"}[r.Intn(5)], 1+r.Intn(3))
		}
		return plain(1 + r.Intn(7))
	}
	var some []made
	for range r.Intn(4) {
		some = append(some, someSound(r, deep-1))
	}
	switch r.Intn(5) {
	case 0:
		return sliceOf(someSound(r, deep-1))
	case 1:
		return chanOf(someSound(r, deep-1))
	case 2:
		return funcOf(some)
	case 3:
		return funcOf(some, someSound(r, deep-1))
	}
	if m := structOf([]string{"P", "Q", "T"}[r.Intn(3)], some...); m.cells <= api.MaxCells {
		return m
	}
	return structOf("E")
}

// soundOnes: the chapter's kinds one by one, their edges, and some of all sorts.
func soundOnes() []made {
	var all []made
	for kind := api.TBool; kind <= api.TUint64; kind++ {
		all = append(all, plain(kind))
	}
	for con := api.CAny; con <= api.CInteger; con++ {
		all = append(all, param("T", con), param("int8", con))
	}
	b, t, u := plain(api.TBool), param("T", api.CAny), param("U", api.CInteger)
	sixteen := slices.Repeat([]made{plain(api.TInt64)}, 16)
	wide := structOf("W", sixteen...)
	full := structOf("Full", wide, wide, wide, wide)
	all = append(all,
		structOf("E"), structOf("E", structOf("F")), structOf("P", plain(api.TInt64), sliceOf(t)), structOf("P", u, b, chanOf(t)),
		structOf("P", plain(api.TInt64), funcOf(nil)), structOf("C", structOf("D", param("T", api.CComparable))), structOf("C", structOf("D", t)),
		wide, full, sliceOf(full), funcOf(nil), funcOf(nil, b), funcOf([]made{b}), funcOf([]made{sliceOf(plain(api.TInt8)), b}, t),
		funcOf(sixteen, full), funcOf([]made{u, t}, param("V", api.CAny)), chanOf(funcOf([]made{b, t}, chanOf(u))), funcOf([]made{t, t}, t),
		structOf("P", chanOf(t), funcOf([]made{u}, t), u, param("T", api.CInteger)),
	)
	for way := range 5 {
		for n := range api.MaxDepth + 1 {
			all = append(all, nest(t, n, way))
		}
	}
	r := rand.New(rand.NewSource(2))
	for i := range 400 {
		all = append(all, someSound(r, i%5))
	}
	return all
}

// unsoundTops: types that are not sound for what they are themselves.
func unsoundTops() []api.Type {
	b := api.Type{Kind: api.TBool}
	one := []api.Type{b}
	f := []api.Field{{Name: "x", Type: b}}
	var all []api.Type
	for _, kind := range []int{-1 << 63, -1, 0, api.TBox, 14, 1<<63 - 1} {
		all = append(all, api.Type{Kind: kind}, api.Type{Kind: kind, List: one}, api.Type{Kind: kind, Name: "T", Con: 1})
	}
	for kind := api.TBool; kind <= api.TUint64; kind++ {
		all = append(all, spoilt(api.Type{Kind: kind}, "name con fields list res")...)
	}
	all = append(all, spoilt(api.Type{Kind: api.TStruct, Name: "P", Fields: f}, "con list res")...)
	all = append(all, spoilt(api.Type{Kind: api.TSlice, List: one}, "name con fields res two none")...)
	all = append(all, spoilt(api.Type{Kind: api.TChan, List: one}, "name con fields res two none")...)
	all = append(all, spoilt(api.Type{Kind: api.TFunc, List: one, Res: one}, "name con fields")...)
	all = append(all, spoilt(api.Type{Kind: api.TFunc}, "name con fields")...)
	all = append(all, spoilt(api.Type{Kind: api.TParam, Name: "T", Con: 1}, "fields list res")...)
	for _, con := range []int{-1 << 63, -1, 0, 4, 1<<63 - 1} {
		all = append(all, api.Type{Kind: api.TParam, Name: "T", Con: con})
	}
	for _, n := range noNames() {
		all = append(all,
			api.Type{Kind: api.TParam, Name: n, Con: 1},
			api.Type{Kind: api.TStruct, Name: n},
			api.Type{Kind: api.TStruct, Name: "P", Fields: []api.Field{{Name: "x", Type: b}, {Name: n, Type: b}}},
		)
	}
	return append(all,
		api.Type{Kind: api.TStruct, Name: "P", Fields: []api.Field{{Name: "x", Type: b}, {Name: "y", Type: b}, {Name: "x", Type: api.Type{Kind: api.TInt8}}}},
		structOf("P", slices.Repeat([]made{plain(api.TBool)}, 17)...).t,
		structOf("P", slices.Repeat([]made{structOf("E")}, 17)...).t,
		funcOf(slices.Repeat([]made{plain(api.TBool)}, 17)).t,
		api.Type{Kind: api.TFunc, Res: []api.Type{b, b}},
	)
}

// spoilt: t with more or less in it than its Kind has, in each of the ways that are named.
func spoilt(t api.Type, ways string) []api.Type {
	var all []api.Type
	b := api.Type{Kind: api.TBool}
	for _, way := range strings.Fields(ways) {
		x := t
		switch way {
		case "name":
			x.Name = "T"
		case "con":
			x.Con = 1
			all = append(all, x)
			x.Con = -1
		case "fields":
			x.Fields = []api.Field{{Name: "x", Type: b}}
		case "list":
			x.List = []api.Type{b}
		case "res":
			x.Res = []api.Type{b}
		case "two":
			x.List = []api.Type{b, b}
		case "none":
			x.List = nil
		}
		all = append(all, x)
	}
	return all
}

// unsoundOnes: those, such types deep inside of others, and types that are too deep or have too many cells.
func unsoundOnes() []api.Type {
	all := unsoundTops()
	for i, t := range unsoundTops() {
		all = append(all, nest(made{t: t}, 1, i).t, nest(made{t: t}, 3, i).t)
	}
	for way := range 5 {
		all = append(all, nest(plain(api.TBool), api.MaxDepth+1, way).t, nest(structOf("E"), api.MaxDepth+1, way).t, nest(param("T", 1), 3000, way).t)
	}
	wide := structOf("W", slices.Repeat([]made{plain(api.TInt64)}, 16)...)
	over := structOf("Over", wide, wide, plain(api.TBool), wide, wide)
	return append(all, over.t, sliceOf(over).t, funcOf([]made{plain(api.TBool), over}).t, funcOf(nil, over).t, structOf("P", chanOf(over)).t, structOf("P", over).t)
}

func names() []string {
	return []string{
		"a", "z", "A", "Z", "_", "a0", "Z9", "__9_", "func", "int64", "\u00c0", "\u00d6", "\u00d8", "\u00f6", "\u00f8", "\u024f", "x\u00e4\u00df1",
		strings.Repeat("n", 64), strings.Repeat("\u00e9", 32), "a" + strings.Repeat("9", 63),
	}
}

func noNames() []string {
	return []string{
		"", " ", "0", "9a", "a b", "a ", " a", "a-b", "a.b", "a\x00", "@", "[", "`", "{", "a/", "a:", "\u00bf", "\u00d7", "\u00f7", "\u0250", "a\u00d7", "\u4e00", "a\u0660",
		"\xc3", "a\xff", "\xc1\x81", "\ufffd", strings.Repeat("n", 65), strings.Repeat("\u00e9", 32) + "n", strings.Repeat("\u00e9", 33), strings.Repeat("n", 70000),
	}
}
