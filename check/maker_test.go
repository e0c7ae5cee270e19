package check_test

import (
	"fmt"
	"math/rand"
	"slices"
	"strings"
)

// kind is a type of a program that is made by chance.
type kind struct {
	text  string // as it is told: of int and int64 only int64
	sort  byte   // b: bool, n: a number, p: a type parameter, s: a struct, l: a slice, c: a channel, f: a function
	con   int    // of a type parameter
	names []string
	parts []*kind // of a struct by names; of a function last what comes of it, nil if it is nothing
}

// made is a function of such a program.
type made struct {
	name   string
	params []*kind // type parameters
	takes  []*kind
	gives  *kind
}

// maker makes programs that have no fault, by what the chapter says of each part: what it writes has a type that was asked for.
type maker struct {
	r       *rand.Rand
	kinds   []*kind // that are of no function
	own     []*kind // type parameters of the function that is made
	made    []made
	scopes  []map[string]*kind
	gives   []*kind // of the functions about
	loops   []int   // about, by functions
	isStuck bool    // there is nothing to write
}

func (m *maker) chance(n int) bool { return m.r.Intn(n) == 0 }

func one[T any](m *maker, list ...T) T { return list[m.r.Intn(len(list))] }

var (
	flag    = &kind{text: "bool", sort: 'b'}
	number  = &kind{text: "int64", sort: 'n'}
	numbers = []*kind{number, number, {text: "int8", sort: 'n'}, {text: "uint8", sort: 'n'}, {text: "int32", sort: 'n'}, {text: "uint32", sort: 'n'}, {text: "uint64", sort: 'n'}}
)

func sliceOf(k *kind) *kind { return &kind{text: "[]" + k.text, sort: 'l', parts: []*kind{k}} }

func chanOf(k *kind) *kind { return &kind{text: "chan " + k.text, sort: 'c', parts: []*kind{k}} }

func funcOf(takes []*kind, gives *kind) *kind {
	var list []string
	for _, k := range takes {
		list = append(list, k.text)
	}
	text := "func(" + strings.Join(list, ", ") + ")"
	if gives != nil {
		text += " " + gives.text
	}
	return &kind{text: text, sort: 'f', parts: append(slices.Clone(takes), gives)}
}

func (k *kind) isWhole() bool { return k.sort == 'n' || k.sort == 'p' && k.con == 3 }

func (k *kind) isComparable() bool {
	switch k.sort {
	case 's':
		return !slices.ContainsFunc(k.parts, func(p *kind) bool { return !p.isComparable() })
	case 'p':
		return k.con > 1
	}
	return k.sort != 'l' && k.sort != 'f'
}

func (k *kind) meets(con int) bool {
	return con == 1 || con == 2 && k.isComparable() || k.isWhole()
}

// with answers k with what stands for type parameters.
func (k *kind) with(stands map[string]*kind) *kind {
	switch {
	case k == nil:
		return nil
	case k.sort == 'p' && stands[k.text] != nil:
		return stands[k.text]
	case k.sort == 'l':
		return sliceOf(k.parts[0].with(stands))
	case k.sort == 'c':
		return chanOf(k.parts[0].with(stands))
	case k.sort == 'f':
		last := len(k.parts) - 1
		var takes []*kind
		for _, p := range k.parts[:last] {
			takes = append(takes, p.with(stands))
		}
		return funcOf(takes, k.parts[last].with(stands))
	}
	return k
}

// anyKind answers a type that may be written, made of others up to that depth.
func (m *maker) anyKind(d int) *kind {
	if d > 0 && m.chance(3) {
		switch m.r.Intn(3) {
		case 0:
			return sliceOf(m.anyKind(d - 1))
		case 1:
			return chanOf(m.anyKind(d - 1))
		}
		return m.funcKind(d - 1)
	}
	switch {
	case m.chance(4):
		return flag
	case m.chance(3):
		return one(m, append(append([]*kind{number}, m.kinds...), m.own...)...)
	}
	return one(m, numbers...)
}

func (m *maker) funcKind(d int) *kind {
	var takes []*kind
	for range m.r.Intn(3) {
		takes = append(takes, m.anyKind(d))
	}
	if m.chance(3) {
		return funcOf(takes, nil)
	}
	return funcOf(takes, m.anyKind(d))
}

// write answers a type as it is written here; it is stuck, if a variable hides it.
func (m *maker) write(k *kind) string {
	switch k.sort {
	case 'l':
		return "[]" + m.write(k.parts[0])
	case 'c':
		return "chan " + m.write(k.parts[0])
	case 'f':
		var takes []string
		last := len(k.parts) - 1
		for _, p := range k.parts[:last] {
			takes = append(takes, m.write(p))
		}
		text := "func(" + strings.Join(takes, ", ") + ")"
		if k.parts[last] != nil {
			text += " " + m.write(k.parts[last])
		}
		return text
	}
	name := k.text
	if name == "int64" && m.chance(2) {
		name = "int"
	}
	m.need(name)
	return name
}

// need: it is stuck, if a variable hides the name.
func (m *maker) need(name string) {
	if m.isBound(name) {
		m.isStuck = true
	}
}

func (m *maker) isBound(name string) bool {
	return slices.ContainsFunc(m.scopes, func(s map[string]*kind) bool { return s[name] != nil })
}

func (m *maker) open() { m.scopes = append(m.scopes, map[string]*kind{}) }

func (m *maker) close() { m.scopes = m.scopes[:len(m.scopes)-1] }

// fresh answers a name that is not declared in this scope; now and then one that hides something.
func (m *maker) fresh() string {
	for {
		name := one(m, "a", "b", "c", "d", "e", "x", "y", "z")
		if m.chance(30) {
			name = one(m, "len", "print", "int8", "int", "recover", "panic", "close", "integer", "any", "P", "f", "g", "T", "main")
		}
		if m.scopes[len(m.scopes)-1][name] == nil {
			return name
		}
	}
}

func (m *maker) bind(name string, k *kind) { m.scopes[len(m.scopes)-1][name] = k }

// variables answers the names of the variables that may be used, of types that are asked for; sorted.
func (m *maker) variables(is func(k *kind) bool) []string {
	var list []string
	hidden := map[string]int{}
	for i := len(m.scopes) - 1; i >= 0; i-- {
		for name, k := range m.scopes[i] {
			if hidden[name] == 0 && is(k) {
				list = append(list, name)
			}
			hidden[name]++
		}
	}
	slices.Sort(list)
	return list
}

func (m *maker) variable(name string) *kind {
	for i := len(m.scopes) - 1; i >= 0; i-- {
		if k := m.scopes[i][name]; k != nil {
			return k
		}
	}
	return nil
}

// program makes a program.
func (m *maker) program() string {
	m.kinds, m.made, m.own, m.scopes, m.isStuck = nil, nil, nil, nil, false
	text := ""
	for _, name := range []string{"P", "Q", "R"}[:m.r.Intn(4)] {
		text += m.structType(name)
	}
	for _, name := range []string{"f", "g", "h", "k", "l"}[:1+m.r.Intn(5)] {
		m.made = append(m.made, m.head(name))
	}
	m.made = append(m.made, made{name: "main"})
	m.r.Shuffle(len(m.made), func(i, j int) { m.made[i], m.made[j] = m.made[j], m.made[i] })
	for _, f := range m.made {
		text += m.function(f)
	}
	return text
}

func (m *maker) structType(name string) string {
	k := &kind{text: name, sort: 's'}
	text := "type " + name + " struct {\n"
	for _, field := range []string{"a", "b", "x"}[:m.r.Intn(4)] {
		p := m.anyKind(1)
		k.names, k.parts = append(k.names, field), append(k.parts, p)
		text += field + " " + m.write(p) + "\n"
	}
	m.kinds = append(m.kinds, k)
	return text + "}\n"
}

func (m *maker) head(name string) made {
	f := made{name: name}
	if m.chance(2) {
		for _, p := range []string{"T", "U"}[:1+m.r.Intn(2)] {
			f.params = append(f.params, &kind{text: p, sort: 'p', con: 1 + m.r.Intn(3)})
		}
	}
	m.own = f.params
	for range m.r.Intn(4) {
		k := m.anyKind(2)
		if len(m.own) > 0 && m.chance(2) {
			k = one(m, m.own...)
		}
		f.takes = append(f.takes, k)
	}
	if !m.chance(4) {
		f.gives = m.anyKind(1)
	}
	return f
}

func (m *maker) function(f made) string {
	m.own = f.params
	var list []string
	for _, p := range f.params {
		list = append(list, p.text+" "+[]string{"", "any", "comparable", "integer"}[p.con])
	}
	text := "func " + f.name
	if len(list) > 0 {
		text += "[" + strings.Join(list, ", ") + "]"
	}
	return text + m.signature(f.takes, f.gives, 4) + "\n"
}

// signature writes parameters, a result, and a block.
func (m *maker) signature(takes []*kind, gives *kind, d int) string {
	var types, list []string
	for _, k := range takes {
		types = append(types, m.write(k))
	}
	result := " "
	if gives != nil {
		result += m.write(gives) + " "
	}
	m.open()
	for i, k := range takes {
		name := m.fresh()
		for slices.ContainsFunc(m.own, func(p *kind) bool { return p.text == name }) {
			name = m.fresh()
		}
		m.bind(name, k)
		list = append(list, name+" "+types[i])
	}
	m.gives, m.loops = append(m.gives, gives), append(m.loops, 0)
	text := "(" + strings.Join(list, ", ") + ")" + result + m.block(d, gives != nil)
	m.gives, m.loops = m.gives[:len(m.gives)-1], m.loops[:len(m.loops)-1]
	m.close()
	return text
}

// block writes a block, which has to end so, or not.
func (m *maker) block(d int, ends bool) string {
	m.open()
	text := "{\n" + m.statements(d, ends) + "}"
	m.close()
	return text
}

func (m *maker) statements(d int, ends bool) string {
	text := ""
	if d > 0 {
		for range m.r.Intn(5) {
			text += m.statement(d-1) + "\n"
		}
	}
	if ends {
		text += m.ending(d-1) + "\n"
	}
	return text
}

// ending writes a statement that ends without nothing.
func (m *maker) ending(d int) string {
	if d > 0 {
		switch m.r.Intn(6) {
		case 0:
			return "if " + m.condition(d) + " " + m.block(d, true) + " else " + m.block(d, true)
		case 1:
			return "if " + m.condition(d) + " " + m.block(d, true) + " else if " + m.condition(d) + " " + m.block(d, true) + " else " + m.block(d, true)
		case 2:
			// What stands in it may hold a break, but for this one.
			loops := m.loops[len(m.loops)-1]
			m.loops[len(m.loops)-1] = 0
			text := "for true " + m.block(d-1, m.chance(2))
			m.loops[len(m.loops)-1] = loops
			return text
		case 3:
			return m.selection(d, true)
		case 4:
			return m.block(d, true)
		}
	}
	if m.chance(4) && !m.isBound("panic") {
		return "panic(" + m.value(number, d) + ")"
	}
	if gives := m.gives[len(m.gives)-1]; gives != nil {
		return "return " + m.value(gives, d)
	}
	return "return"
}

func (m *maker) condition(d int) string { return "(" + m.value(flag, d) + ")" }

func (m *maker) statement(d int) string {
	switch m.r.Intn(16) {
	case 0:
		return m.block(d, m.chance(4))
	case 1:
		return "if " + m.condition(d) + " " + m.block(d, false)
	case 2:
		return "if " + m.condition(d) + " " + m.block(d, false) + " else " + m.block(d, m.chance(2))
	case 3:
		m.loops[len(m.loops)-1]++
		text := "for " + one(m, m.condition(d), "true") + " " + m.block(d, false)
		m.loops[len(m.loops)-1]--
		return text
	case 4:
		if m.loops[len(m.loops)-1] > 0 {
			return one(m, "break", "continue")
		}
	case 5:
		return m.selection(d, false)
	case 6:
		return one(m, "go ", "defer ") + m.anyCall(d)
	case 7:
		k := m.anyKind(1)
		return m.value(chanOf(k), d) + " <- " + m.value(k, d)
	case 8, 9:
		return m.assignment(d)
	case 10:
		k := m.anyKind(2)
		text := m.write(k)
		name := m.fresh()
		m.bind(name, k)
		return "var " + name + " " + text
	case 11:
		return m.ending(0)
	case 12:
		return m.evaluation(d)
	}
	k := m.anyKind(2)
	text := m.typed(k, d)
	if m.chance(4) {
		k, text = number, m.constant(127)
	}
	name := m.fresh()
	m.bind(name, k)
	return name + " := " + text
}

// evaluation writes a statement that is an expression.
func (m *maker) evaluation(d int) string {
	k := one(m, append(numbers, flag, flag)...)
	switch m.r.Intn(6) {
	case 0:
		m.need("print")
		return "print(" + m.value(k, d) + ")"
	case 1:
		m.need("close")
		return "close(" + m.typed(chanOf(k), d) + ")"
	case 2:
		m.need("len")
		return "len(" + m.typed(sliceOf(k), d) + ")"
	case 3:
		return "<-" + m.typed(chanOf(k), d)
	}
	return m.anyCall(d)
}

func (m *maker) assignment(d int) string {
	names := m.variables(func(*kind) bool { return true })
	if len(names) == 0 {
		m.need("print")
		return "print(1)"
	}
	left := one(m, names...)
	k := m.variable(left)
	for {
		switch {
		case k.sort == 's' && len(k.parts) > 0 && m.chance(2):
			i := m.r.Intn(len(k.parts))
			left, k = left+"."+k.names[i], k.parts[i]
			continue
		case k.sort == 'l' && m.chance(2):
			left, k = left+"["+m.value(one(m, numbers...), d)+"]", k.parts[0]
			continue
		}
		return left + " = " + m.value(k, d)
	}
}

func (m *maker) selection(d int, ends bool) string {
	text := "select {\n"
	many := 1 + m.r.Intn(2)
	for range many {
		m.open()
		k := m.anyKind(1)
		switch m.r.Intn(3) {
		case 0:
			c := m.typed(chanOf(k), d-1)
			name := m.fresh()
			m.bind(name, k)
			text += "case " + name + " := <-" + c + ":\n"
		case 1:
			text += "case <-" + m.typed(chanOf(k), d-1) + ":\n"
		case 2:
			text += "case " + m.typed(chanOf(k), d-1) + " <- " + m.value(k, d-1) + ":\n"
		}
		text += m.statements(d-1, ends)
		m.close()
	}
	if m.chance(3) {
		m.open()
		text += "default:\n" + m.statements(d-1, ends)
		m.close()
	}
	return text + "}"
}

// anyCall writes a call of a function, or of an expression.
func (m *maker) anyCall(d int) string {
	if m.chance(2) {
		f := m.funcKind(1)
		return m.callOf(f, d)
	}
	f := one(m, m.made...)
	m.need(f.name)
	stands := map[string]*kind{}
	for _, p := range f.params {
		stands[p.text] = m.fitting(p.con)
	}
	return m.callByName(f, stands, d)
}

// fitting answers a type that meets a constraint.
func (m *maker) fitting(con int) *kind {
	for {
		if k := m.anyKind(1); k.meets(con) {
			return k
		}
	}
}

func (m *maker) callOf(f *kind, d int) string {
	last := len(f.parts) - 1
	return m.typed(f, d-1) + "(" + m.values(f.parts[:last], d-1) + ")"
}

func (m *maker) values(kinds []*kind, d int) string {
	var list []string
	for _, k := range kinds {
		list = append(list, m.value(k, d))
	}
	return strings.Join(list, ", ")
}

// callByName writes a call of a function of the program. Type arguments that no argument tells are written.
func (m *maker) callByName(f made, stands map[string]*kind, d int) string {
	isTold := true
	for _, p := range f.params {
		isTold = isTold && slices.ContainsFunc(f.takes, func(k *kind) bool { return k == p })
	}
	if len(f.params) > 0 && isTold && m.chance(2) {
		return f.name + "(" + m.inferred(f, stands, d) + ")"
	}
	text := f.name
	if len(f.params) > 0 {
		var list []string
		for _, p := range f.params {
			k := stands[p.text]
			if k.sort == 'f' {
				// No function type can be written there.
				m.isStuck = true
			}
			list = append(list, m.write(k))
		}
		text += "[" + strings.Join(list, ", ") + "]"
	}
	var takes []*kind
	for _, k := range f.takes {
		takes = append(takes, k.with(stands))
	}
	return text + "(" + m.values(takes, d-1) + ")"
}

// inferred writes arguments that tell what type parameters stand for: the first of each type parameter has a type, or all of int64 are constants.
func (m *maker) inferred(f made, stands map[string]*kind, d int) string {
	told := map[string]int{}
	var list []string
	for _, k := range f.takes {
		t := k.with(stands)
		switch {
		case k.sort == 'p' && t == number && m.chance(2):
			list = append(list, m.constant(127))
		case k.sort == 'p' && told[k.text] == 0 && t != number:
			list = append(list, m.typed(t, d-1))
		default:
			list = append(list, m.value(t, d-1))
		}
		told[k.text]++
	}
	return strings.Join(list, ", ")
}

// constant writes a constant from 0 to most.
func (m *maker) constant(most int) string {
	n := m.r.Intn(most + 1)
	switch m.r.Intn(5) {
	case 0:
		return fmt.Sprintf("(%d - %d)", n+7, 7)
	case 1:
		return fmt.Sprintf("%#x", n)
	case 2:
		return fmt.Sprintf("-(-%d)", n)
	}
	return fmt.Sprint(n)
}

// value writes an expression that is assignable to k.
func (m *maker) value(k *kind, d int) string {
	if k.isWhole() && m.chance(3) {
		return m.constant(127)
	}
	return m.typed(k, d)
}

// typed writes an expression of the type k, which is no constant.
func (m *maker) typed(k *kind, d int) string {
	if names := m.variables(func(v *kind) bool { return v.text == k.text }); len(names) > 0 && (d <= 0 || m.chance(3)) {
		return one(m, names...)
	}
	if d > 0 {
		switch m.r.Intn(6) {
		case 0:
			if text, ok := m.fromCall(k, d); ok {
				return text
			}
		case 1:
			if text, ok := m.fromField(k, d); ok {
				return text
			}
		case 2:
			return m.typed(sliceOf(k), d-2) + "[" + m.value(one(m, numbers...), d-2) + "]"
		case 3:
			return "(<-" + m.typed(chanOf(k), d-2) + ")"
		}
	}
	return m.direct(k, d)
}

// fromCall writes a call of which k comes.
func (m *maker) fromCall(k *kind, d int) (string, bool) {
	var list []made
	for _, f := range m.made {
		if f.gives != nil && !m.isBound(f.name) && (f.gives.text == k.text && len(f.params) == 0 || slices.Contains(f.params, f.gives) && k.meets(f.gives.con)) {
			list = append(list, f)
		}
	}
	if len(list) == 0 || m.chance(4) {
		var takes []*kind
		for range m.r.Intn(2) {
			takes = append(takes, m.anyKind(1))
		}
		return m.callOf(funcOf(takes, k), d-1), true
	}
	f := one(m, list...)
	stands := map[string]*kind{}
	for _, p := range f.params {
		stands[p.text] = m.fitting(p.con)
	}
	if len(f.params) > 0 {
		stands[f.gives.text] = k
	}
	return m.callByName(f, stands, d), true
}

// fromField writes x.f of the type k, if there is a struct with such a field.
func (m *maker) fromField(k *kind, d int) (string, bool) {
	for _, s := range m.kinds {
		for i, p := range s.parts {
			if p.text == k.text {
				return m.typed(s, d-2) + "." + s.names[i], true
			}
		}
	}
	return "", false
}

// direct writes an expression as it is only of such types.
func (m *maker) direct(k *kind, d int) string {
	switch {
	case k.sort == 'b':
		return m.flag(d)
	case k.isWhole():
		return m.number(k, d)
	case k.sort == 's' && m.chance(2):
		m.need(k.text)
		return k.text + "{" + m.values(k.parts, d-1) + "}"
	case k.sort == 'l', k.sort == 'c':
		return "make(" + m.write(k) + ", " + m.value(one(m, numbers...), d-1) + ")"
	case k.sort == 'f':
		return m.functionValue(k, d)
	}
	return "func() " + m.write(k) + " {\nvar a_ " + m.write(k) + "\nreturn a_\n}()"
}

// functionValue writes a function as a value.
func (m *maker) functionValue(k *kind, d int) string {
	for _, f := range m.made {
		if len(f.params) == 0 && funcOf(f.takes, f.gives).text == k.text && !m.isBound(f.name) && m.chance(2) {
			return f.name
		}
	}
	last := len(k.parts) - 1
	return "(func" + m.signature(k.parts[:last], k.parts[last], min(d-1, 2)) + ")"
}

func (m *maker) flag(d int) string {
	if d <= 0 {
		return one(m, "true", "false")
	}
	k := m.anyKind(1)
	switch m.r.Intn(4) {
	case 0:
		return "(" + m.typed(flag, d-1) + one(m, " && ", " || ") + m.typed(flag, d-1) + ")"
	case 1:
		return "!" + m.typed(flag, d-1)
	case 2:
		for !k.isComparable() {
			k = m.anyKind(1)
		}
		return m.pair(k, one(m, "==", "!="), d)
	}
	for !k.isWhole() {
		k = m.anyKind(1)
	}
	return m.pair(k, one(m, "<", "<=", ">", ">="), d)
}

// pair writes an operator of two, both of the type k, or one of them a constant.
func (m *maker) pair(k *kind, op string, d int) string {
	if m.chance(2) {
		return "(" + m.value(k, d-1) + " " + op + " " + m.typed(k, d-1) + ")"
	}
	return "(" + m.typed(k, d-1) + " " + op + " " + m.value(k, d-1) + ")"
}

func (m *maker) number(k *kind, d int) string {
	if d > 0 {
		switch m.r.Intn(6) {
		case 0, 1:
			return m.pair(k, one(m, strings.Fields("+ - * / % & | ^ &^")...), d)
		case 2:
			return "(" + m.typed(k, d-1) + one(m, " << ", " >> ") + m.value(one(m, numbers...), d-1) + ")"
		case 3:
			return one(m, "-", "^") + m.typed(k, d-1)
		case 4:
			if k == number {
				return m.counted(d)
			}
		}
		return m.write(k) + "(" + m.value(m.fitting(3), d-1) + ")"
	}
	return m.write(k) + "(" + m.constant(127) + ")"
}

// counted writes an int64 as no other kind comes.
func (m *maker) counted(d int) string {
	switch m.r.Intn(3) {
	case 0:
		m.need("len")
		return "len(" + m.typed(sliceOf(m.anyKind(1)), d-1) + ")"
	case 1:
		m.need("recover")
		return "recover()"
	}
	return "(" + m.constant(127) + " << " + m.typed(one(m, numbers...), d-1) + ")"
}
