package parse_test

import (
	"strings"
	"testing"

	"mullion/api"
	"mullion/tree"
)

// times joins n texts.
func times(n int, s, between string) string {
	return strings.TrimSuffix(strings.Repeat(s+between, n), between)
}

// about puts n texts ahead of a part and n behind it.
func about(n int, ahead, part, behind string) string {
	return strings.Repeat(ahead, n) + part + strings.Repeat(behind, n)
}

// wantLarge asks for ErrLarge; and for a fault, if there is one behind.
func wantLarge(t *testing.T, e entry, text string) {
	t.Helper()
	wantFault(t, e, text, 0, api.ErrLarge)
	wantFaults(t, e, text+" $)")
}

// TestDeepTrees: of the depth that there may be, and of one more.
func TestDeepTrees(t *testing.T) {
	deep := []struct {
		e    entry
		text func(n int) string // of a tree of the depth n
	}{
		{expr, func(n int) string { return about(n, "-", "x", "") }},
		{expr, func(n int) string { return about(n, "<-", "x", "") }},
		{expr, func(n int) string { return about(n, "", "x", "+x") }},
		{expr, func(n int) string { return about(n, "x+(", "x", ")") }},
		{expr, func(n int) string { return about(n, "", "x", "()") }},
		{expr, func(n int) string { return about(n, "f(", "x", ")") }},
		{expr, func(n int) string { return about(n, "", "x", ".y") }},
		{expr, func(n int) string { return about(n, "", "x", "[0]") }},
		{expr, func(n int) string { return about(n, "P{", "x", "}") }},
		{expr, func(n int) string { return about(n, "(-(", "x", "))") }},
		{expr, func(n int) string { return "make(" + about(n-1, "[]", "T", "") + ", n)" }},
		{expr, func(n int) string { return "func() " + about(n-2, "chan ", "T", "") + " {}" }},
		{expr, func(n int) string { return "func() { " + about(n-2, "{", "break", "}") + " }" }},
		{typed, func(n int) string { return about(n, "[]", "T", "") }},
		{typed, func(n int) string { return about(n, "chan ", "T", "") }},
		{typed, func(n int) string { return about(n, "func(", "T", ")") }},
		{typed, func(n int) string { return about(n, "func() ", "T", "") }},
		{stmt, func(n int) string { return about(n, "{", "break", "}") }},
		{stmt, func(n int) string { return about(n-1, "if x {} else ", "if x {}", "") }},
		{stmt, func(n int) string { return "x = " + about(n-1, "-", "x", "") }},
		{stmt, func(n int) string { return "return " + about(n-1, "", "x", ".y") }},
		{stmt, func(n int) string { return "select { case c <- " + about(n-2, "-", "x", "") + ": }" }},
		{stmt, func(n int) string { return "var x " + about(n-1, "[]", "T", "") }},
		{program, func(n int) string { return "type P struct { x " + about(n-3, "[]", "T", "") + " }" }},
		{program, func(n int) string { return "func f() { x := " + about(n-4, "-", "x", "") + " }" }},
	}
	for _, row := range deep {
		for _, n := range []int{8, api.MaxNest - 1, api.MaxNest} {
			text := row.text(n)
			got, at, err := row.e.read(text)
			if err != api.OK || at != 0 || tree.Depth(got) != n {
				t.Errorf("%s of %s = %d, %d, of the depth %d, not %d", row.e.start, short(text), at, err, tree.Depth(got), n)
			}
		}
		for _, n := range []int{api.MaxNest + 1, api.MaxNest + 2, 1000} {
			wantLarge(t, row.e, row.text(n))
		}
	}
}

// TestDeepTexts: as deep as tokens allow, and parentheses, which leave nothing in the tree.
func TestDeepTexts(t *testing.T) {
	const many = api.MaxTokens
	wantRead(t, expr, about(many/2-1, "(", "x", ")"))
	wantRead(t, stmt, about(many/2-2, "(", "<-x", ")"))
	wantLarge(t, expr, strings.Repeat("-", many-3)+"x")
	wantLarge(t, expr, "x"+strings.Repeat("+x", many/2-2))
	wantLarge(t, expr, about(many/5-1, "-(", "x", ")"))
	wantLarge(t, typed, strings.Repeat("[]", many/2-2)+"T")
	wantLarge(t, stmt, about(many/2-2, "{", "break", "}"))
	wantLarge(t, expr, about(many/7-1, "func(){x=", "y", "}"))
	wantFaults(t, expr, strings.Repeat("(", many)+"$", strings.Repeat("-", many)+"$", strings.Repeat("-", many-2)+"$)", strings.Repeat("func(){x=", many/8)+"$")
	wantFaults(t, typed, strings.Repeat("[]", many/2-1)+"$", strings.Repeat("func(", many/2)+"$")
	wantFaults(t, stmt, strings.Repeat("{", many)+"$", "if $"+strings.Repeat("if ", many/2))
}

// TestManyNodes: as many as there may be. One more takes one token too many, too, for no text has more nodes than tokens.
func TestManyNodes(t *testing.T) {
	const many = api.MaxNodes
	row := func(n int) string { return "func f() {" + times(n, "<-c", ";") }
	for _, add := range []struct {
		behind string
		nodes  int
	}{{";<-<-c}", 4}, {";<-<-<-c}", 5}, {";<-<-<-<-c}", 6}, {";<-<-<-<-<-c}", 7}} {
		n := (many - 6 - add.nodes) / 3
		got, at, err := program.read(row(n) + add.behind)
		if size := 6 + 3*n + add.nodes; size > many {
			t.Fatalf("%d nodes are too many", size)
		} else if err != api.OK || at != 0 || tree.Size(got) != size {
			t.Errorf("a program of %d nodes = %d, %d, with %d", size, at, err, tree.Size(got))
		}
	}
	n := (many - 6 - 4) / 3
	if 6+3*n+4 != many {
		t.Fatalf("not one of these programs has %d nodes", many)
	}
	text := row(n) + ";<-<-<-c}"
	wantFault(t, program, text, len(text), api.ErrLarge)
	text = row(n) + ";<-<-c;<-c}"
	wantFault(t, program, text, len(text)-2, api.ErrLarge)
	wantRead(t, stmt, "{"+times((many-3)/3, "<-c", ";")+"}")
	wantRead(t, expr, "f("+times(api.MaxParams, "x", ",")+")")
}

// TestMany: as many parameters, fields and arguments as there may be, and one more.
func TestMany(t *testing.T) {
	const most = api.MaxParams
	for _, row := range []struct {
		e                   entry
		ahead, part, behind string
	}{
		{program, "type P struct { ", "x T", " }"}, {program, "func f(", "x T", ") {}"}, {program, "func f[", "T any", "]() {}"}, {program, "func f() { g(", "x", ") }"},
		{expr, "func(", "x T", ") {}"}, {expr, "f(", "x", ")"}, {expr, "f[", "x", "]"}, {expr, "f[", "[]T", "]"}, {expr, "P{", "x", "}"}, {expr, "-f[", "x", "](x)"}, {expr, "make(func(", "T", "), 1)"},
		{typed, "func(", "T", ")"}, {typed, "func(", "T", ") T"}, {typed, "[]func(", "T", ") T"},
		{stmt, "f(", "x", ")"}, {stmt, "var x func(", "T", ")"}, {stmt, "if f(", "x", ") {}"},
	} {
		between := ", "
		if strings.HasPrefix(row.ahead, "type") {
			between = "; "
		}
		text := func(n int) string { return row.ahead + times(n, row.part, between) + row.behind }
		wantRead(t, row.e, text(1), text(most-1), text(most), row.ahead+times(most, row.part, between)+";"+row.behind)
		for _, n := range []int{most + 1, most + 2, 1000} {
			wantLarge(t, row.e, text(n))
		}
	}
	// Other lists may be longer.
	wantRead(t, program, times(most+1, "func f() {}", ";"), times(most+1, "type P struct {}", "\n"))
	wantRead(t, stmt, "{"+times(most+1, "f()", ";")+"}", "select {"+times(most+1, "case <-c:", "")+"}", "select { case <-c: "+times(most+1, "f()", ";")+"}")
}
