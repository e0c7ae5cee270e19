package code_test

import (
	"encoding/binary"
	"fmt"
	"reflect"
	"slices"

	"mullion/api"
)

// The model of bytes knows no module: it goes through the fields of api's types as they are declared, which is the order in which the chapter names them, and has the library write the numbers.

const top = 1<<31 - 1

// visit gives v and all in it to see, each with the name of the field that it stands in: a list ahead of its parts.
func visit(name string, v reflect.Value, see func(name string, v reflect.Value)) {
	switch v.Kind() {
	case reflect.Struct:
		for i := range v.NumField() {
			visit(v.Type().Field(i).Name, v.Field(i), see)
		}
	case reflect.Slice:
		see(name, v)
		for i := range v.Len() {
			visit(name, v.Index(i), see)
		}
	default:
		see(name, v)
	}
}

// leastOf is the least that a number in the field of that name may be.
func leastOf(name string) int64 {
	if name == "A" || name == "B" || name == "Val" {
		return -1
	}
	return 0
}

func modelEncode(m api.Module) ([]byte, api.Errno) {
	var b []byte
	isOff := false
	visit("", reflect.ValueOf(m), func(name string, v reflect.Value) {
		switch v.Kind() {
		case reflect.Slice:
			b = binary.AppendUvarint(b, uint64(v.Len()))
		case reflect.Bool:
			b = append(b, map[bool]byte{true: 1}[v.Bool()])
		case reflect.Uint64:
			b = binary.AppendUvarint(b, v.Uint())
		case reflect.Int:
			isOff = isOff || v.Int() < leastOf(name) || v.Int() > top
			b = binary.AppendUvarint(b, uint64(v.Int()-leastOf(name)))
		}
	})
	switch {
	case isOff:
		return nil, api.ErrForm
	case len(b) > 1<<20:
		return nil, api.ErrLarge
	}
	return b, api.OK
}

// bytesLeft is what of a text of bytes the model has not read.
type bytesLeft struct {
	b  []byte
	at int
}

// take reads a number up to most, and gives up with its place.
func (l *bytesLeft) take(most uint64) uint64 {
	n, size := binary.Uvarint(l.b[l.at:])
	if size <= 0 || n > most || len(binary.AppendUvarint(nil, n)) != size {
		panic(l.at)
	}
	l.at += size
	return n
}

// fill reads v.
func (l *bytesLeft) fill(name string, v reflect.Value) {
	switch v.Kind() {
	case reflect.Struct:
		for i := range v.NumField() {
			l.fill(v.Type().Field(i).Name, v.Field(i))
		}
	case reflect.Slice:
		for range l.take(top) {
			part := reflect.New(v.Type().Elem()).Elem()
			l.fill(name, part)
			v.Set(reflect.Append(v, part))
		}
	case reflect.Bool:
		v.SetBool(l.take(1) == 1)
	case reflect.Uint64:
		v.SetUint(l.take(1<<64 - 1))
	case reflect.Int:
		v.SetInt(int64(l.take(uint64(top-leastOf(name)))) + leastOf(name))
	}
}

func modelDecode(b []byte) (m api.Module, at int, e api.Errno) {
	if len(b) > 1<<20 {
		return api.Module{}, 0, api.ErrLarge
	}
	defer func() {
		if caught := recover(); caught != nil {
			m, at, e = api.Module{}, caught.(int), api.ErrText
		}
	}()
	l := &bytesLeft{b: b}
	l.fill("", reflect.ValueOf(&m).Elem())
	if l.at < len(b) {
		panic(l.at)
	}
	return m, 0, api.OK
}

// spots answers all that m is made of and that can be set: numbers, flags and lists.
func spots(m *api.Module) (names []string, values []reflect.Value) {
	visit("", reflect.ValueOf(m).Elem(), func(name string, v reflect.Value) {
		names, values = append(names, name), append(values, v)
	})
	return names, values
}

// clone answers m in new memory, all empty lists nil.
func clone(m api.Module) api.Module {
	var out api.Module
	copyTo(reflect.ValueOf(&out).Elem(), reflect.ValueOf(m), func(l reflect.Value) int { return l.Len() })
	return out
}

// copyTo copies from to what is zero yet; long tells how much of a list.
func copyTo(to, from reflect.Value, long func(reflect.Value) int) {
	switch from.Kind() {
	case reflect.Struct:
		for i := range from.NumField() {
			copyTo(to.Field(i), from.Field(i), long)
		}
	case reflect.Slice:
		from = from.Slice(0, long(from))
		for i := range from.Len() {
			part := reflect.New(to.Type().Elem()).Elem()
			copyTo(part, from.Index(i), long)
			to.Set(reflect.Append(to, part))
		}
	default:
		to.Set(from)
	}
}

// The model of soundness has a row for each Kind, and asks each shape for its cells anew.

type row struct {
	kind        int
	least, most int // how many stand in List
	res         bool
}

var rows = []row{
	{1, 0, 0, false}, {2, 0, 0, false}, {3, 0, 0, false}, {4, 0, 0, false}, {5, 0, 0, false}, {6, 0, 0, false}, {7, 0, 0, false},
	{8, 0, 16, false}, {9, 1, 1, false}, {10, 1, 1, false}, {11, 0, 16, true}, {13, 1, 1, false},
}

func modelCells(m api.Module, t int) int {
	if m.Types[t].Kind != 8 {
		return 1
	}
	all := 0
	for _, f := range m.Types[t].List {
		all += modelCells(m, f)
	}
	return all
}

// modelIsSound tells whether m is sound in form.
func modelIsSound(m api.Module) bool {
	spelt := map[string]int{}
	ok := len(m.Types) <= 256 && len(m.Funcs) >= 1 && len(m.Funcs) <= 256
	for at, s := range m.Types {
		i := slices.IndexFunc(rows, func(r row) bool { return r.kind == s.Kind })
		if i < 0 || len(s.List) < rows[i].least || len(s.List) > rows[i].most {
			return false
		}
		names := slices.Clone(s.List)
		if s.Res != 0 {
			names = append(names, s.Res-1)
			ok = ok && rows[i].res
		}
		if slices.ContainsFunc(names, func(t int) bool { return t < 0 || t >= at }) {
			return false
		}
		text := fmt.Sprint(s.Kind, s.List, s.Res)
		spelt[text]++
		ok = ok && (s.Kind == 8 || spelt[text] == 1) && modelCells(m, at) <= 64
	}
	code := 0
	for _, f := range m.Funcs {
		names := slices.Concat(f.Locals, f.Caps)
		if f.Res != 0 {
			names = append(names, f.Res-1)
		}
		ok = ok && !slices.ContainsFunc(names, func(t int) bool { return t < 0 || t >= len(m.Types) })
		ok = ok && len(f.Locals) <= 1024 && len(f.Caps) <= 1024 && f.Params >= 0 && f.Params <= len(f.Locals)
		code += len(f.Code)
	}
	return ok && code <= 65536
}
