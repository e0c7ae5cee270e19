package mono_test

import (
	"fmt"
	"math/rand"
	"slices"
	"strings"
)

// shape is a type of a program that is made by chance.
type shape struct {
	word  string // a name; or [], chan, func, by which it is made of others
	parts []*shape
	gives *shape // what comes of a func; nil: nothing
}

func (s *shape) text() string {
	switch s.word {
	case "[]":
		return "[]" + s.parts[0].text()
	case "chan":
		return "chan " + s.parts[0].text()
	case "func":
		var list []string
		for _, p := range s.parts {
			list = append(list, p.text())
		}
		text := "func(" + strings.Join(list, ", ") + ")"
		if s.gives != nil {
			text += " " + s.gives.text()
		}
		return text
	}
	return s.word
}

// all answers what s is made of.
func (s *shape) all() []*shape {
	if s.gives == nil {
		return s.parts
	}
	return append(slices.Clone(s.parts), s.gives)
}

func (s *shape) depth() int {
	depth := 0
	for _, p := range s.all() {
		depth = max(depth, p.depth()+1)
	}
	if s.word == "P" {
		// It has a field.
		depth = 1
	}
	return depth
}

// with answers s with what stands for names in it.
func (s *shape) with(stands map[string]*shape) *shape {
	if s == nil {
		return nil
	}
	if stand := stands[s.word]; stand != nil {
		return stand
	}
	out := &shape{word: s.word, gives: s.gives.with(stands)}
	for _, p := range s.parts {
		out.parts = append(out.parts, p.with(stands))
	}
	return out
}

// has tells whether a name stands in s.
func (s *shape) has(name string) bool {
	return s.word == name || slices.ContainsFunc(s.all(), func(p *shape) bool { return p.has(name) })
}

// function is one of such a program, and what it needs.
type function struct {
	name   string
	params []string
	takes  []*shape
	gives  *shape
	needs  []need
}

// need is a function that is named, with the types that were chosen for it.
type need struct {
	of   *function
	args []*shape
}

// stands tells what the type parameters of f stand for.
func (f *function) stands(args []*shape) map[string]*shape {
	stands := map[string]*shape{}
	for i, p := range f.params {
		stands[p] = args[i]
	}
	return stands
}

// maker makes programs that have no fault, and notes what each function needs while it writes.
type maker struct {
	r         *rand.Rand
	functions []*function // main is the last
	own       *function   // that is written
	grows     bool        // type arguments are made of type parameters
}

func (m *maker) chance(n int) bool { return m.r.Intn(n) == 0 }

func plain(word string) *shape { return &shape{word: word} }

// shape makes one that is at most so deep, in which the names may stand.
func (m *maker) shape(depth int, names []string) *shape {
	if depth > 0 && m.chance(3) {
		switch m.r.Intn(3) {
		case 0:
			return &shape{word: "[]", parts: []*shape{m.shape(depth-1, names)}}
		case 1:
			return &shape{word: "chan", parts: []*shape{m.shape(depth-1, names)}}
		}
		s := &shape{word: "func"}
		for range m.r.Intn(3) {
			s.parts = append(s.parts, m.shape(depth-1, names))
		}
		if !m.chance(3) {
			s.gives = m.shape(depth-1, names)
		}
		return s
	}
	if len(names) > 0 && !m.chance(4) {
		return plain(names[m.r.Intn(len(names))])
	}
	return plain([]string{"bool", "int8", "int64", "int64", "P"}[m.r.Intn(5)])
}

// program makes one.
func (m *maker) program() string {
	m.functions = nil
	m.grows = m.chance(3)
	for i := range 2 + m.r.Intn(9) {
		f := &function{name: fmt.Sprint("f", i), params: []string{"T", "U", "V"}[:m.r.Intn(4)]}
		if m.chance(2) {
			f.params = slices.Clone(f.params)
			slices.Reverse(f.params)
		}
		for range m.r.Intn(4) {
			f.takes = append(f.takes, m.shape(1, f.params))
		}
		if m.chance(2) {
			f.gives = m.shape(1, f.params)
		}
		m.functions = append(m.functions, f)
	}
	m.functions = append(m.functions, &function{name: "main"})
	list := []string{"type P struct { x int64 }\n"}
	for _, f := range m.functions {
		list = append(list, m.write(f))
	}
	m.r.Shuffle(len(list), func(i, j int) { list[i], list[j] = list[j], list[i] })
	return strings.Join(list, "")
}

func (m *maker) write(f *function) string {
	m.own = f
	text := "func " + f.name
	if len(f.params) > 0 {
		text += "[" + strings.Join(f.params, " any, ") + " any]"
	}
	text += signature("a", f.takes, f.gives) + " {\n"
	for range m.r.Intn(4) {
		text += m.statement(2) + "\n"
	}
	if f.name == "main" {
		text += m.statement(2) + "\n" + m.statement(2) + "\n"
	}
	if f.gives != nil {
		text += "return " + m.expression(f.gives, 2) + "\n"
	}
	return text + "}\n"
}

// signature answers parameters, that are named by a letter and a number, and a result.
func signature(letter string, takes []*shape, gives *shape) string {
	var list []string
	for i, s := range takes {
		list = append(list, fmt.Sprint(letter, i, " ", s.text()))
	}
	text := "(" + strings.Join(list, ", ") + ")"
	if gives != nil {
		text += " " + gives.text()
	}
	return text
}

func (m *maker) statement(d int) string {
	if d == 0 || m.chance(2) {
		f := m.functions[m.r.Intn(len(m.functions))]
		return []string{"", "", "go ", "defer "}[m.r.Intn(4)] + m.call(f, m.anyArgs(f), d)
	}
	s := m.shape(1, m.own.params)
	switch m.r.Intn(9) {
	case 0:
		return "{\nx := " + m.expression(s, d) + "\nx = " + m.expression(s, d) + "\n}"
	case 1:
		return "if " + m.expression(plain("bool"), d) + " {\n" + m.statement(d-1) + "\n} else {\n" + m.statement(d-1) + "\n}"
	case 2:
		return "for " + m.expression(plain("bool"), d) + " {\n" + m.statement(d-1) + "\n}"
	case 3:
		return "func() {\n" + m.statement(d-1) + "\n}()"
	case 4:
		c := &shape{word: "chan", parts: []*shape{s}}
		return "select {\ncase " + m.expression(c, d-1) + " <- " + m.expression(s, d-1) + ":\n" + m.statement(d-1) + "\ncase x := <-" + m.expression(c, d-1) + ":\n" + m.statement(d-1) + "\n}"
	case 5:
		return m.expression(&shape{word: "[]", parts: []*shape{s}}, d) + "[" + m.expression(plain("int64"), d-1) + "] = " + m.expression(s, d-1)
	case 6:
		// A name that hides a function.
		return "{\nf0 := " + m.expression(s, d) + "\nf0 = f0\n}"
	case 7:
		return "{\nx := make([]" + s.text() + ", " + m.expression(plain("int64"), d) + ")\nx[0] = " + m.expression(s, d) + "\n}"
	}
	return "print(" + m.expression(plain("int64"), d) + " + " + m.expression(plain("int64"), d) + ")"
}

// expression writes one of a type: a parameter, a call, a function as a value, a func literal, or something empty.
func (m *maker) expression(s *shape, d int) string {
	for i, k := range m.own.takes {
		if k.text() == s.text() && m.chance(3) {
			return fmt.Sprint("a", i)
		}
	}
	if d > 0 && m.chance(2) {
		for _, i := range m.r.Perm(len(m.functions)) {
			f := m.functions[i]
			if args := m.argsFor(f, s); args != nil {
				return m.call(f, args, d-1)
			}
			if value := (&shape{word: "func", parts: f.takes, gives: f.gives}); len(f.params) == 0 && value.text() == s.text() {
				m.own.needs = append(m.own.needs, need{of: f})
				return f.name
			}
		}
	}
	switch {
	case s.word == "func" && s.gives != nil && d > 0:
		return "func" + signature("b", s.parts, s.gives) + " { return " + m.expression(s.gives, d-1) + " }"
	case s.word == "int64" && m.chance(2):
		return "1"
	case s.word == "P" && d > 0:
		return "P{" + m.expression(plain("int64"), d-1) + "}"
	}
	return "func() " + s.text() + " { var x " + s.text() + "; return x }()"
}

// anyArgs chooses types for the type parameters of f.
func (m *maker) anyArgs(f *function) []*shape {
	args := []*shape{}
	for range f.params {
		depth := 0
		if m.grows || m.own.name == "main" {
			depth = 1
		}
		arg := m.shape(depth, m.own.params)
		if arg.word == "func" && !f.isFound() {
			arg = plain("bool")
		}
		args = append(args, arg)
	}
	return args
}

// isFound tells whether the type arguments of a call may be left out. If they are written, none of them may begin with func.
func (f *function) isFound() bool {
	for _, p := range f.params {
		if !slices.ContainsFunc(f.takes, func(s *shape) bool { return s.has(p) }) {
			return false
		}
	}
	return true
}

// argsFor chooses them so that what comes of f is s; nil: it can't be.
func (m *maker) argsFor(f *function, s *shape) []*shape {
	if f.gives == nil {
		return nil
	}
	args := m.anyArgs(f)
	if i := slices.Index(f.params, f.gives.word); i >= 0 {
		args[i] = s
	}
	if f.gives.with(f.stands(args)).text() != s.text() || s.word == "func" && !f.isFound() {
		return nil
	}
	return args
}

// call writes a call.
func (m *maker) call(f *function, args []*shape, d int) string {
	text := f.name
	isFunc := slices.ContainsFunc(args, func(a *shape) bool { return a.word == "func" })
	m.own.needs = append(m.own.needs, need{f, args})
	if len(args) > 0 && !isFunc && (!f.isFound() || m.chance(3)) {
		var list []string
		for _, a := range args {
			list = append(list, a.text())
		}
		text += "[" + strings.Join(list, ", ") + "]"
	}
	var list []string
	for _, s := range f.takes {
		list = append(list, m.expression(s.with(f.stands(args)), d-1))
	}
	return text + "(" + strings.Join(list, ", ") + ")"
}

// instances answers what main needs, as it is told; or the name of the function whose instance there may not be.
func (m *maker) instances() ([]string, string) {
	type instance struct {
		of   *function
		args []*shape
	}
	list := []instance{{of: m.functions[len(m.functions)-1]}}
	names := []string{"main"}
	for i := 0; i < len(list); i++ {
		stands := list[i].of.stands(list[i].args)
		for _, n := range list[i].of.needs {
			next, name, isDeep := instance{of: n.of}, n.of.name, false
			var texts []string
			for _, a := range n.args {
				arg := a.with(stands)
				isDeep = isDeep || arg.depth() > 8
				next.args, texts = append(next.args, arg), append(texts, arg.text())
			}
			if len(texts) > 0 {
				name += "[" + strings.Join(texts, ", ") + "]"
			}
			switch {
			case slices.Contains(names, name):
			case isDeep, len(list) == 128:
				return nil, n.of.name
			default:
				list, names = append(list, next), append(names, name)
			}
		}
	}
	return names, ""
}
