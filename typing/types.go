package typing

import (
	"slices"
	"strconv"
	"strings"

	"mullion/api"
)

// Type is a type. A table has one alone of each, so two types are the same just if their pointers are, and what types are made of is shared: written out, as the layers below take types, a type of a short program may be larger than any memory.
type Type struct {
	Number int // which one of the table it is
	kind   int
	name   string   // of a struct or a type parameter
	con    int      // of a type parameter
	fields []string // names of a struct's fields, whose types stand in parts
	parts  []*Type  // what it is made of
	hasRes bool     // the last of parts is what comes of a function

	depth, cells int
	isComparable bool
	hasParam     bool // a type parameter stands in it
}

// table holds types, by what tells them apart.
type table struct {
	known map[string]*Type
}

// one answers the type that is as t, which has its measures if it is not new.
func (l *table) one(t Type) *Type {
	key := t.key()
	if l.known[key] == nil {
		t.Number = len(l.known)
		t.measure()
		l.known[key] = &t
	}
	return l.known[key]
}

// plain answers a type that is neither named nor made of others.
func (l *table) plain(kind int) *Type {
	return l.one(Type{kind: kind})
}

// function answers the type of what takes and gives these; nothing comes of it, if gives is nil.
func (l *table) function(takes []*Type, gives *Type) *Type {
	t := Type{kind: api.TFunc, parts: slices.Clone(takes), hasRes: gives != nil}
	if t.hasRes {
		t.parts = append(t.parts, gives)
	}
	return l.one(t)
}

// replacer answers what answers a type with what stands for its type parameters in the place of them; nil: that is not sound. What stands often in a type is replaced once.
func (l *table) replacer(found stands) func(t *Type) *Type {
	made := map[int]*Type{}
	var replace func(t *Type) *Type
	replace = func(t *Type) *Type {
		switch {
		case !t.hasParam:
			return t
		case t.kind == api.TParam:
			return found[t.name]
		}
		out, isMade := made[t.Number]
		if !isMade {
			out = l.rebuilt(t, replace)
			made[t.Number] = out
		}
		return out
	}
	return replace
}

// rebuilt answers t, in which a type parameter stands, made of what its parts are replaced by; nil: that is not sound.
func (l *table) rebuilt(t *Type, replace func(t *Type) *Type) *Type {
	out := Type{kind: t.kind, hasRes: t.hasRes}
	for _, p := range t.parts {
		part := replace(p)
		if part == nil {
			return nil
		}
		out.parts = append(out.parts, part)
	}
	if made := l.one(out); made.isSound() {
		return made
	}
	return nil
}

// key answers what tells t apart from all types that are not the same. No two structs of a program have one name.
func (t *Type) key() string {
	key := []string{strconv.Itoa(t.kind), t.name, strconv.Itoa(t.con), strconv.FormatBool(t.hasRes)}
	if t.kind != api.TStruct {
		for _, p := range t.parts {
			key = append(key, strconv.Itoa(p.Number))
		}
	}
	return strings.Join(key, " ")
}

// measure works out what is asked of t again and again, from what is known of its parts.
func (t *Type) measure() {
	t.hasParam = t.kind == api.TParam
	t.isComparable = t.kind != api.TSlice && t.kind != api.TFunc && (t.kind != api.TParam || t.con != api.CAny)
	for _, p := range t.parts {
		t.depth = max(t.depth, p.depth+1)
		t.cells += p.cells
		t.hasParam = t.hasParam || p.hasParam
		if t.kind == api.TStruct {
			t.isComparable = t.isComparable && p.isComparable
		}
	}
	if t.kind != api.TStruct {
		t.cells = 1
	}
}

// isSound tells whether t, whose parts are sound, is within the limits of types.
func (t *Type) isSound() bool {
	return t.depth <= api.MaxDepth && t.cells <= api.MaxCells
}

// isWhole tells whether t is a whole number of some kind.
func (t *Type) isWhole() bool {
	if t.kind == api.TParam {
		return t.con == api.CInteger
	}
	return api.TInt8 <= t.kind && t.kind <= api.TUint64
}

// meets tells whether t is what a constraint asks for.
func (t *Type) meets(con int) bool {
	switch con {
	case api.CComparable:
		return t.isComparable
	case api.CInteger:
		return t.isWhole()
	}
	return true
}

// takes answers what a function takes; of a slice or a channel what it is of.
func (t *Type) takes() []*Type {
	if !t.hasRes {
		return t.parts
	}
	return t.parts[:len(t.parts)-1]
}

// gives answers what comes of a function; nil: nothing.
func (t *Type) gives() *Type {
	if !t.hasRes {
		return nil
	}
	return t.parts[len(t.parts)-1]
}

// stands tells by their names what type parameters stand for.
type stands map[string]*Type

// match finds what the type parameters in want stand for, if want is to be have, as chapter 8 tells it, and answers whether it can be.
func (s stands) match(want, have *Type) bool {
	switch {
	case want.kind == api.TParam:
		if s[want.name] == nil {
			s[want.name] = have
		}
		return s[want.name] == have
	case !want.hasParam:
		return want == have
	case want.kind != have.kind || want.hasRes != have.hasRes || len(want.parts) != len(have.parts):
		return false
	}
	for i, p := range want.parts {
		if !s.match(p, have.parts[i]) {
			return false
		}
	}
	return true
}
