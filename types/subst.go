package types

import "mullion/api"

// Subst answers t with the type of args in the place of each TParam whose name stands at its place in names.
func Subst(t api.Type, names []string, args []api.Type) (api.Type, api.Errno) {
	if e := Check(t); e != api.OK {
		return api.Type{}, e
	}
	sizes := make([]size, 0, len(args))
	for _, a := range args {
		s, e := gauge(a)
		if e != api.OK {
			return api.Type{}, e
		}
		sizes = append(sizes, s)
	}
	if len(names) != len(args) {
		return api.Type{}, api.ErrArg
	}
	stands, given := map[string]api.Type{}, map[string]size{}
	for i, n := range names {
		if _, ok := given[n]; ok {
			return api.Type{}, api.ErrArg
		}
		stands[n], given[n] = args[i], sizes[i]
	}
	// t is sound and so is all that is put into it: a fault now is one of size. It is looked for ahead of the making, as what is too large may be larger than any memory.
	if _, e := gaugeWith(t, given); e != api.OK {
		return api.Type{}, api.ErrLarge
	}
	return replace(t, stands), api.OK
}

// Copy answers t in new memory.
func Copy(t api.Type) (api.Type, api.Errno) {
	if e := Check(t); e != api.OK {
		return api.Type{}, e
	}
	return replace(t, nil), api.OK
}

// replace copies t, and puts a copy of the type that stands for its name in the place of each TParam that has one. What is put in is not looked through for names: they are others than those of t.
func replace(t api.Type, stands map[string]api.Type) api.Type {
	var renew func(t api.Type) api.Type
	list := func(from []api.Type) []api.Type {
		var to []api.Type
		for _, p := range from {
			to = append(to, renew(p))
		}
		return to
	}
	renew = func(t api.Type) api.Type {
		if a, ok := stands[t.Name]; ok && t.Kind == api.TParam {
			return replace(a, nil)
		}
		var fields []api.Field
		for _, f := range t.Fields {
			fields = append(fields, api.Field{Name: f.Name, Type: renew(f.Type)})
		}
		return api.Type{Kind: t.Kind, Name: t.Name, Con: t.Con, Fields: fields, List: list(t.List), Res: list(t.Res)}
	}
	return renew(t)
}
