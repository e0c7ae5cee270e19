package code

import "mullion/api"

// key tells shapes apart: the Kind, Res, how many are in List, and these.
type key [3 + api.MaxParams]int

// keyOf answers the key of a shape that is formed.
func keyOf(s api.Shape) key {
	k := key{s.Kind, s.Res, len(s.List)}
	for i, t := range s.List {
		k[3+i] = t
	}
	return k
}

// measure answers the cells of each shape of m, and ErrForm if m is not sound.
func measure(m api.Module) (cells []int, e api.Errno) {
	cells, areSound := measureShapes(m.Types)
	if !areSound || !areFunctions(m.Funcs, len(m.Types)) {
		return nil, api.ErrForm
	}
	return cells, api.OK
}

// measureShapes answers the cells of each of the shapes, and whether they are sound.
func measureShapes(shapes []api.Shape) (cells []int, areSound bool) {
	if len(shapes) > api.MaxTypes {
		return nil, false
	}
	times := map[key]int{}
	for at, s := range shapes {
		if !isFormed(s, at) {
			return nil, false
		}
		k := keyOf(s)
		if times[k]++; times[k] > 1 && s.Kind != api.TStruct {
			return nil, false
		}
		size := cellsOf(s, cells)
		if size > api.MaxCells {
			return nil, false
		}
		cells = append(cells, size)
	}
	return cells, true
}

// isFormed tells whether a shape that stands at that place has what its Kind asks for and nothing else.
func isFormed(s api.Shape, at int) bool {
	if !areShapes(s.List, at, api.MaxParams) {
		return false
	}
	switch s.Kind {
	case api.TBool, api.TInt8, api.TUint8, api.TInt32, api.TUint32, api.TInt64, api.TUint64:
		return len(s.List) == 0 && s.Res == 0
	case api.TStruct:
		return s.Res == 0
	case api.TSlice, api.TChan, api.TBox:
		return len(s.List) == 1 && s.Res == 0
	case api.TFunc:
		return isResult(s.Res, at)
	}
	return false
}

// cellsOf answers the cells of a shape that is formed, where cells has those of the shapes ahead of it.
func cellsOf(s api.Shape, cells []int) int {
	if s.Kind != api.TStruct {
		return 1
	}
	all := 0
	for _, t := range s.List {
		all += cells[t]
	}
	return all
}

// areFunctions tells whether a module with so many shapes may have these functions.
func areFunctions(functions []api.Func, shapes int) bool {
	if len(functions) < 1 || len(functions) > api.MaxFuncs {
		return false
	}
	instructions := 0
	for _, f := range functions {
		if !areShapes(f.Locals, shapes, api.MaxLocals) || !areShapes(f.Caps, shapes, api.MaxLocals) {
			return false
		}
		if f.Params < 0 || f.Params > len(f.Locals) || !isResult(f.Res, shapes) {
			return false
		}
		instructions += len(f.Code)
	}
	return instructions <= api.MaxCode
}

// areShapes tells whether a list names only some of the first so many shapes, and no more than most.
func areShapes(list []int, shapes, most int) bool {
	if len(list) > most {
		return false
	}
	for _, t := range list {
		if !isPlace(t, shapes) {
			return false
		}
	}
	return true
}

// isPlace tells whether t is one of the first so many shapes.
func isPlace(t, shapes int) bool {
	return 0 <= t && t < shapes
}

// isResult tells whether res is 0, or one of the first so many shapes, and one.
func isResult(res, shapes int) bool {
	return 0 <= res && res <= shapes
}
