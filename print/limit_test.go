package print_test

import (
	"slices"
	"strings"
	"testing"

	"mullion/api"
	"mullion/node"
	"mullion/parse"
	"mullion/tree"
)

// wantSort asks that n is sound for this call, and for neither of the others.
func wantSort(t *testing.T, n api.Node, sound call) {
	t.Helper()
	for _, c := range calls {
		if _, e := c.write(n); c.name == sound.name && e != api.OK {
			t.Errorf("%s of a node %d = %d", c.name, n.Kind, e)
		} else if c.name != sound.name {
			wantFault(t, c, n, api.ErrForm)
		}
	}
}

// TestSorts: a sound tree of one sort is no sound one of the others; a statement, and what is a part alone, is none of the three.
func TestSorts(t *testing.T) {
	for _, r := range expressionRows() {
		wantSort(t, r.n, expr)
	}
	for _, r := range typeRows() {
		wantSort(t, r.n, typed)
	}
	wantSort(t, program(), text)
	for _, r := range declarationRows() {
		wantSort(t, program(r.n), text)
		wantSort(t, r.n, call{})
	}
	for _, r := range statementRows() {
		wantSort(t, r.n, call{})
	}
	x := typeName("X")
	for _, n := range []api.Node{
		typeParams(), typeParams(typeParam("T", 1)), typeParam("T", 1), field("x", x), params(), params(field("x", x)), result(), result(x),
		receiveCase("x", name("c")), sendCase(name("c"), name("d")), defaultCase(), program(program()), program(name("x")),
	} {
		wantSort(t, n, call{})
	}
}

// spoilings answers n with one thing in it that is not sound, each time in another node.
func spoilings(n api.Node) []api.Node {
	var all []api.Node
	for _, kind := range []int{0, -1, 9, 14, 46, 1 << 40, -1 << 63, 1<<63 - 1} {
		all = append(all, is(kind, n.Text, n.N, n.List...))
	}
	for _, s := range []string{"1", "func", "a b", "\xff", strings.Repeat("n", 65), "=", "(", "x\n"} {
		all = append(all, is(n.Kind, s, n.N, n.List...))
	}
	all = append(all, is(n.Kind, n.Text, n.N, append(slices.Clone(n.List), bare(9))...))
	if n.Kind != node.Number {
		all = append(all, is(n.Kind, n.Text, 4, n.List...), is(n.Kind, n.Text, 1<<64-1, n.List...))
	}
	for i := range n.List {
		for _, p := range spoilings(n.List[i]) {
			list := slices.Clone(n.List)
			list[i] = p
			all = append(all, is(n.Kind, n.Text, n.N, list...))
		}
	}
	return all
}

// TestNotSound: what is not sound anywhere is ErrForm.
func TestNotSound(t *testing.T) {
	for _, r := range expressionRows() {
		for _, n := range spoilings(r.n) {
			wantFault(t, expr, n, api.ErrForm)
		}
	}
	for _, r := range typeRows() {
		for _, n := range spoilings(r.n) {
			wantFault(t, typed, n, api.ErrForm)
		}
	}
	for _, r := range declarationRows() {
		for _, n := range spoilings(program(r.n)) {
			wantFault(t, text, n, api.ErrForm)
		}
	}
	for _, r := range statementRows() {
		for _, n := range spoilings(r.n) {
			wantFault(t, text, program(fn("f", block(n))), api.ErrForm)
		}
	}
}

// TestLimitsOfTrees: what is beyond the limits of a tree is not sound.
func TestLimitsOfTrees(t *testing.T) {
	a, x := name("a"), typeName("X")
	for _, n := range []api.Node{
		lit("P", times(17, a)...), invoke(times(18, a)...), index(times(18, a)...), closure(params(times(17, field("a", x))...), result(), block()),
		choose(defaultCase(), defaultCase()), op("-"), op("-", a, a, a), op("+", a), op("=", a, a), closure(params(), result(x, x), block()),
	} {
		wantFault(t, expr, n, api.ErrForm)
	}
	wantFault(t, typed, takes(times(17, x)...), api.ErrForm)
	wantFault(t, typed, gives(), api.ErrForm)
	wantFault(t, text, program(structType("P", times(17, field("a", x))...)), api.ErrForm)
	wantFault(t, text, program(times(16384, structType("P"))...), api.ErrForm)
}

// TestDepth: trees as deep as they may be, and one deeper.
func TestDepth(t *testing.T) {
	n, want := name("a"), "a"
	for range 64 {
		n, want = op("-", n), "-"+want
	}
	wantText(t, expr, n, want)
	wantFault(t, expr, op("-", n), api.ErrForm)

	n, want = typeName("X"), "X"
	for range 64 {
		n, want = channel(n), "chan "+want
	}
	wantText(t, typed, n, want)
	wantFault(t, typed, slice(n), api.ErrForm)

	n, ahead, behind := block(), "func f() {\n", "}\n"
	for i := range 62 {
		tabs := strings.Repeat("\t", i+1)
		n, ahead, behind = block(n), ahead+tabs+"{\n", tabs+"}\n"+behind
	}
	wantText(t, text, program(fn("f", n)), ahead+behind)
	wantFault(t, text, program(fn("f", block(n))), api.ErrForm)
}

// listed: the text of a list.
func listed(rows []row) (list []api.Node, s string) {
	var texts []string
	for _, r := range rows {
		list, texts = append(list, r.n), append(texts, r.text)
	}
	return list, strings.Join(texts, ", ")
}

// inSixteens puts rows into one another, by sixteen, till one is left.
func inSixteens(rows []row, wrap func([]row) row) row {
	for len(rows) > 1 {
		var wraps []row
		for some := range slices.Chunk(rows, 16) {
			wraps = append(wraps, wrap(some))
		}
		rows = wraps
	}
	return rows[0]
}

// longest answers a row of many parts whose text has so many bytes: what whole makes of names that are as long as it takes.
func longest(size int, letter string, leaf func(string) row, whole func([]row) row) row {
	rows := slices.Repeat([]row{leaf(strings.Repeat(letter, 32/len(letter)))}, 1024)
	left := size - len(whole(rows).text)
	for i := range rows {
		more := min(left, 32) / len(letter) * len(letter)
		if left < len(letter) {
			break
		}
		rows[i] = leaf(strings.Repeat(letter, (32+more)/len(letter)))
		left -= more
	}
	if left > 0 {
		rows[len(rows)-1] = leaf(strings.Repeat("n", left) + strings.Repeat(letter, 32/len(letter)))
	}
	return whole(rows)
}

// sizes are ways to make a text of any length, of each sort.
func sizes() []struct {
	c     call
	leaf  func(string) row
	whole func([]row) row
} {
	leaf := func(s string) row { return row{name(s), s} }
	return []struct {
		c     call
		leaf  func(string) row
		whole func([]row) row
	}{
		{expr, leaf, func(rows []row) row {
			return inSixteens(rows, func(some []row) row {
				list, s := listed(some)
				return row{lit("P", list...), "P{" + s + "}"}
			})
		}},
		{expr, leaf, func(rows []row) row {
			list, lines := []api.Node{}, ""
			for _, r := range rows {
				list, lines = append(list, ret(r.n)), lines+"\treturn "+r.text+"\n"
			}
			return row{closure(params(), result(), block(list...)), "func() {\n" + lines + "}"}
		}},
		{typed, func(s string) row { return row{typeName(s), s} }, func(rows []row) row {
			return inSixteens(rows, func(some []row) row {
				list, s := listed(some)
				return row{takes(list...), "func(" + s + ")"}
			})
		}},
		{text, func(s string) row { return row{structType(s), "type " + s + " struct {\n}\n"} }, func(rows []row) row {
			list, lines := []api.Node{}, ""
			for _, r := range rows {
				list, lines = append(list, r.n), lines+r.text
			}
			return row{program(list...), lines}
		}},
	}
}

// TestSizes: texts as long as they may be, in bytes, and of one byte more.
func TestSizes(t *testing.T) {
	for i, way := range sizes() {
		for _, letter := range []string{"n", "\u00e9"} {
			most := longest(api.MaxText, letter, way.leaf, way.whole)
			more := longest(api.MaxText+1, letter, way.leaf, way.whole)
			less := longest(api.MaxText-1, letter, way.leaf, way.whole)
			if len(most.text) != api.MaxText || len(more.text) != api.MaxText+1 || len(less.text) != api.MaxText-1 {
				t.Fatalf("way %d makes texts of %d, %d, %d bytes", i, len(most.text), len(more.text), len(less.text))
			}
			wantText(t, way.c, less.n, less.text)
			wantText(t, way.c, most.n, most.text)
			wantFault(t, way.c, more.n, api.ErrLarge)
			if n, at, e := way.c.read(most.text); e != api.OK || !tree.Same(n, most.n) {
				t.Errorf("way %d: the greatest text is read as %d, %d", i, at, e)
			}
		}
	}
}

// TestFarTooLarge: of sound trees with as much in them as there may be, no text is answered; and what is not sound is ErrForm, however long its text would be.
func TestFarTooLarge(t *testing.T) {
	s := strings.Repeat("n", 64)
	deep := block(times(16384-64, leave(1))...)
	for range 58 {
		deep = block(deep)
	}
	for _, n := range []api.Node{program(times(16383, structType(s))...), program(fn(s, deep)), program(append(times(2000, fn(s, block())), structType(s))...)} {
		wantFault(t, text, n, api.ErrLarge)
		n.List = append(slices.Clone(n.List), name("x"))
		wantFault(t, text, n, api.ErrForm)
	}
	wide := func(leaf api.Node, wrap func(...api.Node) api.Node) api.Node {
		return wrap(times(16, wrap(times(16, wrap(times(16, leaf)...))...))...)
	}
	for _, n := range []api.Node{wide(name(s), func(list ...api.Node) api.Node { return lit(s, list...) }), wide(num(1<<64-1), func(list ...api.Node) api.Node { return lit(s, list...) })} {
		wantFault(t, expr, n, api.ErrLarge)
		wantFault(t, expr, op("%%", n, n), api.ErrForm)
		wantFault(t, text, n, api.ErrForm)
		wantFault(t, typed, n, api.ErrForm)
	}
	wantFault(t, typed, wide(typeName(s), takes), api.ErrLarge)
	wantFault(t, typed, takes(wide(typeName(s), takes), name("x")), api.ErrForm)
}

// TestMoreThanCanBeRead: a text is answered though it has more tokens than can be read.
func TestMoreThanCanBeRead(t *testing.T) {
	leaf := func(s string) row { return row{name("a"), "a"} }
	rows := slices.Repeat([]row{leaf("")}, 14000)
	r := inSixteens(rows, func(some []row) row {
		list, s := listed(some)
		return row{lit("P", list...), "P{" + s + "}"}
	})
	wantText(t, expr, r.n, r.text)
	if _, _, e := parse.Expr(r.text); e != api.ErrLarge {
		t.Errorf("the text is read: %d", e)
	}
}
