package types

import (
	"mullion/api"
	"mullion/letter"
)

// size is what of a type the limits are for.
type size struct {
	depth, cells int
}

// gauge answers the size of t, and ErrForm if t is not sound.
func gauge(t api.Type) (size, api.Errno) {
	return gaugeWith(t, nil)
}

// gaugeWith answers the size that t has when TParams of the names in given are types of the sizes there, and ErrForm if it is not sound then.
func gaugeWith(t api.Type, given map[string]size) (size, api.Errno) {
	var look func(t api.Type, room int) (size, bool)
	// room is how deep t may be: what nests too deep is left before it is gone through.
	look = func(t api.Type, room int) (size, bool) {
		if s, ok := given[t.Name]; ok && t.Kind == api.TParam {
			return s, s.depth <= room
		}
		if room < 0 || !isFormed(t) {
			return size{}, false
		}
		var all size
		for _, p := range parts(t) {
			s, ok := look(p, room-1)
			if !ok {
				return size{}, false
			}
			all.depth = max(all.depth, s.depth+1)
			all.cells += s.cells
		}
		if t.Kind != api.TStruct {
			all.cells = 1
		}
		return all, all.cells <= api.MaxCells
	}
	if s, ok := look(t, api.MaxDepth); ok {
		return s, api.OK
	}
	return size{}, api.ErrForm
}

// isFormed tells whether t has what its Kind asks for and nothing else; what its parts are made of is not looked at.
func isFormed(t api.Type) bool {
	rest, ok := t, true
	switch t.Kind {
	case api.TBool, api.TInt8, api.TUint8, api.TInt32, api.TUint32, api.TInt64, api.TUint64:
	case api.TStruct:
		ok = letter.IsName(t.Name) && areFields(t.Fields)
		rest.Name, rest.Fields = "", nil
	case api.TSlice, api.TChan:
		ok = len(t.List) == 1
		rest.List = nil
	case api.TFunc:
		ok = len(t.List) <= api.MaxParams && len(t.Res) <= 1
		rest.List, rest.Res = nil, nil
	case api.TParam:
		ok = letter.IsName(t.Name) && api.CAny <= t.Con && t.Con <= api.CInteger
		rest.Name, rest.Con = "", 0
	default:
		return false
	}
	return ok && rest.Name == "" && rest.Con == 0 && len(rest.Fields)+len(rest.List)+len(rest.Res) == 0
}

// areFields tells whether a struct may have fields of these names.
func areFields(fields []api.Field) bool {
	if len(fields) > api.MaxParams {
		return false
	}
	seen := map[string]int{}
	for _, f := range fields {
		if !letter.IsName(f.Name) || seen[f.Name] > 0 {
			return false
		}
		seen[f.Name]++
	}
	return true
}
