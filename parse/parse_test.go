package parse_test

import (
	"reflect"
	"strconv"
	"strings"
	"testing"

	"mullion/api"
	"mullion/parse"
	"mullion/tree"
)

// entry is one of the four calls: what it reads, by the name that the grammar of the tests has for it, and what tells whether a tree is such.
type entry struct {
	start string
	read  func(string) (api.Node, int, api.Errno)
	sound func(api.Node) api.Errno
}

var (
	program = entry{"ProgramText", parse.Parse, tree.Check}
	stmt    = entry{"StmtText", parse.Stmt, soundAs(1)}
	expr    = entry{"ExprText", parse.Expr, soundAs(2)}
	typed   = entry{"TypeText", parse.Type, soundAs(3)}
	entries = []entry{program, stmt, expr, typed}
)

func soundAs(sort int) func(api.Node) api.Errno {
	return func(n api.Node) api.Errno { return tree.Sound(n, sort) }
}

// tidy answers n in new memory, with nil for empty lists.
func tidy(n api.Node) api.Node {
	var list []api.Node
	for _, p := range n.List {
		list = append(list, tidy(p))
	}
	n.List = list
	return n
}

// show writes a tree: of each node Kind:Text=N@At, without what is empty or 0 but At, and what is in it.
func show(n api.Node) string {
	s := strconv.Itoa(n.Kind)
	if n.Text != "" {
		s += ":" + n.Text
	}
	if n.N != 0 {
		s += "=" + strconv.FormatUint(n.N, 10)
	}
	s += "@" + strconv.Itoa(n.At)
	var list []string
	for _, p := range n.List {
		list = append(list, show(p))
	}
	if len(list) > 0 {
		s += "(" + strings.Join(list, " ") + ")"
	}
	return s
}

// short answers the beginning of a text, for messages.
func short(s string) string {
	return strconv.Quote(s[:min(len(s), 250)])
}

// wantTree asks for this tree, places and all.
func wantTree(t *testing.T, e entry, text string, want api.Node) {
	t.Helper()
	n, at, err := e.read(text)
	if err != api.OK || at != 0 {
		t.Errorf("%s of %s = %d, %d", e.start, short(text), at, err)
	} else if !reflect.DeepEqual(tidy(n), tidy(want)) {
		t.Errorf("%s of %s\n is %s\nnot %s", e.start, short(text), short(show(n)), short(show(want)))
	} else if e.sound(n) != api.OK {
		t.Errorf("%s of %s is not sound", e.start, short(text))
	}
}

// wantShown asks, row by row, for the text's tree to be shown so.
func wantShown(t *testing.T, e entry, rows ...[2]string) {
	t.Helper()
	for _, row := range rows {
		if n, at, err := e.read(row[0]); err != api.OK || at != 0 || show(n) != row[1] {
			t.Errorf("%s of %s = %d, %d\n is %s\nnot %s", e.start, short(row[0]), at, err, show(n), row[1])
		}
	}
}

// wantRead asks for no fault.
func wantRead(t *testing.T, e entry, texts ...string) {
	t.Helper()
	for _, s := range texts {
		if n, at, err := e.read(s); err != api.OK || at != 0 || e.sound(n) != api.OK {
			t.Errorf("%s of %s = %d, %d", e.start, short(s), at, err)
		}
	}
}

// wantFault asks for this error and place, and nothing beside it.
func wantFault(t *testing.T, e entry, text string, at int, err api.Errno) {
	t.Helper()
	if n, a, b := e.read(text); a != at || b != err || !reflect.DeepEqual(tidy(n), api.Node{}) {
		t.Errorf("%s of %s = %s, %d, %d, not %d, %d", e.start, short(text), short(show(n)), a, b, at, err)
	}
}

// wantFaults asks for ErrText: in each text one $ stands ahead of what is at fault.
func wantFaults(t *testing.T, e entry, texts ...string) {
	t.Helper()
	for _, s := range texts {
		ahead, behind, ok := strings.Cut(s, "$")
		if !ok || strings.Contains(behind, "$") {
			t.Fatalf("%q has not one $", s)
		}
		wantFault(t, e, ahead+behind, len(ahead), api.ErrText)
	}
}

func TestExamples(t *testing.T) {
	wantShown(t, expr,
		[2]string{"a + b * c << 1", "33:+@2(30:a@0 33:<<@10(33:*@6(30:b@4 30:c@8) 31=1@13))"},
		[2]string{"f(x)[1].y", "35:y@7(36@4(34@1(30:f@0 30:x@2) 31=1@5))"},
		[2]string{"-x.y", "33:-@0(35:y@2(30:x@1))"},
	)
	wantShown(t, stmt,
		[2]string{"x = 1", "23@0(30:x@0 31=1@4)"},
		[2]string{"(a) = 1", "23@0(30:a@1 31=1@6)"},
		[2]string{"if (P{1} == x) { }", "25@0(33:==@9(37:P@4(31=1@6) 30:x@12) 20@15)"},
	)
	wantFaults(t, stmt, "$x", "if P{$1} == x { }")
	wantFaults(t, expr, "f($;)")
}

func TestPlacesOfDeclarations(t *testing.T) {
	wantShown(t, program,
		[2]string{"", "1@0"},
		[2]string{"\n // x\n", "1@0"},
		[2]string{" type P struct {}", "1@0(2:P@1)"},
		[2]string{"type P struct { a T; b []U }", "1@0(2:P@0(5:a@16(10:T@18) 5:b@21(11@23(10:U@25))))"},
		[2]string{"func f() {}", "1@0(3:f@0(4@6 6@6 7@9 20@9))"},
		[2]string{"\nfunc f ( ) { }\nfunc g(x T) U {\n}\n", "1@0(3:f@1(4@8 6@8 7@12 20@12) 3:g@16(4@22 6@22(5:x@23(10:T@25)) 7@28(10:U@28) 20@30))"},
		[2]string{"func f [T any, U comparable, V integer] () {}", "1@0(3:f@0(4@7(8:T=1@8 8:U=2@15 8:V=3@29) 6@40 7@43 20@43))"},
	)
}

func TestPlacesOfTypes(t *testing.T) {
	wantShown(t, typed,
		[2]string{" T", "10:T@1"},
		[2]string{" []T", "11@1(10:T@3)"},
		[2]string{"chan chan T", "12@0(12@5(10:T@10))"},
		[2]string{"func()", "13@0"},
		[2]string{"func() T", "13=1@0(10:T@7)"},
		[2]string{"func(A, []B)", "13@0(10:A@5 11@8(10:B@10))"},
		[2]string{" func ( A ) func(B) C", "13=1@1(10:A@8 13=1@12(10:B@17 10:C@20))"},
	)
}

func TestPlacesOfStatements(t *testing.T) {
	wantShown(t, stmt,
		[2]string{" { }", "20@1"},
		[2]string{"{ {}; break; continue }", "20@0(20@2 27@6 27=1@13)"},
		[2]string{" var x T", "22:x@1(10:T@7)"},
		[2]string{" x := y", "21:x@1(30:y@6)"},
		[2]string{" x.y = z", "23@1(35:y@2(30:x@1) 30:z@7)"},
		[2]string{" ((x)[0]) = z", "23@1(36@5(30:x@3 31@6) 30:z@12)"},
		[2]string{" f()", "24@1(34@2(30:f@1))"},
		[2]string{" (f)()", "24@1(34@4(30:f@2))"},
		[2]string{" ((f)())", "24@1(34@5(30:f@3))"},
		[2]string{" <-c", "24@1(39@1(30:c@3))"},
		[2]string{"((<-c))", "24@0(39@2(30:c@4))"},
		[2]string{" x.f(y)", "24@1(34@4(35:f@2(30:x@1) 30:y@5))"},
		[2]string{" if x {}", "25@1(30:x@4 20@6)"},
		[2]string{"if (x) {} else {}", "25@0(30:x@4 20@7 20@15)"},
		[2]string{"if x {} else if y {}", "25@0(30:x@3 20@5 25@13(30:y@16 20@18))"},
		[2]string{" for x < y { }", "26@1(33:<@7(30:x@5 30:y@9) 20@11)"},
		[2]string{" break", "27@1"},
		[2]string{"continue", "27=1@0"},
		[2]string{" return", "28@1"},
		[2]string{"return (x)", "28@0(30:x@8)"},
		[2]string{" go f()", "29@1(34@5(30:f@4))"},
		[2]string{"defer (f())", "29=1@0(34@8(30:f@7))"},
		[2]string{" c <- x", "41@3(30:c@1 30:x@6)"},
		[2]string{"(c) <- (x)", "41@4(30:c@1 30:x@8)"},
		[2]string{"<-c <- x", "41@4(39@0(30:c@2) 30:x@7)"},
		[2]string{" select { }", "42@1"},
		[2]string{"select { default: }", "42@0(45@9(20@16))"},
		[2]string{"select { case x := <-c : f(); }", "42@0(43:x@9(30:c@21 20@23(24@25(34@26(30:f@25)))))"},
		[2]string{"select { case (c) <- x: <-d\ndefault: }", "42@0(44@9(30:c@15 30:x@21 20@22(24@24(39@24(30:d@26)))) 45@28(20@35))"},
	)
}

func TestPlacesOfExpressions(t *testing.T) {
	wantShown(t, expr,
		[2]string{" x", "30:x@1"},
		[2]string{"((x))", "30:x@2"},
		[2]string{" 0x1F", "31=31@1"},
		[2]string{"18446744073709551615", "31=18446744073709551615@0"},
		[2]string{"0", "31@0"},
		[2]string{" true", "32=1@1"},
		[2]string{"false", "32@0"},
		[2]string{" -x", "33:-@1(30:x@2)"},
		[2]string{"^ - ! x", "33:^@0(33:-@2(33:!@4(30:x@6)))"},
		[2]string{" <- <-c", "39@1(39@4(30:c@6))"},
		[2]string{"-(x)", "33:-@0(30:x@2)"},
		[2]string{"(a) + (b)", "33:+@4(30:a@1 30:b@7)"},
		[2]string{"(a + b)", "33:+@3(30:a@1 30:b@5)"},
		[2]string{"f (x, y)", "34@2(30:f@0 30:x@3 30:y@6)"},
		[2]string{"f()()", "34@3(34@1(30:f@0))"},
		[2]string{"(f)()", "34@3(30:f@1)"},
		[2]string{"x . y", "35:y@2(30:x@0)"},
		[2]string{"x.y.z", "35:z@3(35:y@1(30:x@0))"},
		[2]string{"x [0]", "36@2(30:x@0 31@3)"},
		[2]string{" P {}", "37:P@1"},
		[2]string{"P{(x), Q{}}", "37:P@0(30:x@3 37:Q@7)"},
		[2]string{" func() {}", "38@1(6@5 7@8 20@8)"},
		[2]string{"func (x A, y B) C {}", "38@0(6@5(5:x@6(10:A@8) 5:y@11(10:B@13)) 7@16(10:C@16) 20@18)"},
		[2]string{" make(chan T, (n))", "40@1(12@6(10:T@11) 30:n@15)"},
	)
}

// strengthOf: how strong an operator of two binds.
func strengthOf(op string) int {
	for i, list := range strengths {
		for _, s := range list {
			if s == op {
				return i
			}
		}
	}
	return -1
}

// TestOperators: each operator of two beside each other one, and beside those of one.
func TestOperators(t *testing.T) {
	name := func(s string, at int) api.Node { return made(30, s, 0, at) }
	for _, a := range operators() {
		for _, b := range operators() {
			first, second := 2, 5+len(a)
			x, y, z := name("x", 0), name("y", 3+len(a)), name("z", 6+len(a)+len(b))
			want := made(33, b, 0, second, made(33, a, 0, first, x, y), z)
			if strengthOf(b) > strengthOf(a) {
				want = made(33, a, 0, first, x, made(33, b, 0, second, y, z))
			}
			wantTree(t, expr, "x "+a+" y "+b+" z", want)
		}
		for _, one := range []string{"-", "^", "!"} {
			want := made(33, a, 0, 3, made(33, one, 0, 0, name("x", 1)), made(33, one, 0, 4+len(a), name("y", 5+len(a))))
			wantTree(t, expr, one+"x "+a+" "+one+"y", want)
		}
		want := made(33, a, 0, 4, made(39, "", 0, 0, name("x", 2)), made(39, "", 0, 5+len(a), name("y", 7+len(a))))
		wantTree(t, expr, "<-x "+a+" <-y", want)
		wantFaults(t, expr, "x "+a+"$", "x "+a+" $*y", "x "+a+" $== y", "x "+a+" $:= y", "x "+a+" $= y", "x "+a+" $)")
	}
	wantShown(t, expr,
		[2]string{"a - b - c", "33:-@6(33:-@2(30:a@0 30:b@4) 30:c@8)"},
		[2]string{"a - (b - c)", "33:-@2(30:a@0 33:-@7(30:b@5 30:c@9))"},
		[2]string{"a--b", "33:-@1(30:a@0 33:-@2(30:b@3))"},
		[2]string{"a&^^b", "33:&^@1(30:a@0 33:^@3(30:b@4))"},
		[2]string{"<-f(x) + 1", "33:+@7(39@0(34@3(30:f@2 30:x@4)) 31=1@9)"},
		[2]string{"!a == b", "33:==@3(33:!@0(30:a@1) 30:b@6)"},
		[2]string{"a || b && c == d + e * f", "33:||@2(30:a@0 33:&&@7(30:b@5 33:==@12(30:c@10 33:+@17(30:d@15 33:*@21(30:e@19 30:f@23)))))"},
		[2]string{"a * b + c == d && e || f", "33:||@20(33:&&@15(33:==@10(33:+@6(33:*@2(30:a@0 30:b@4) 30:c@8) 30:d@13) 30:e@18) 30:f@23)"},
	)
	wantFaults(t, expr, "$+x", "$*x", "$&x", "$== x", "x $!", "x $! y", "!$", "-$", "<-$", "x $<- y", "x $= y", "x +$+ y", "x $y", "x $7", "x$<-y")
}

// operators: those of two.
func operators() []string {
	var all []string
	for _, list := range strengths {
		all = append(all, list...)
	}
	return all
}

// TestSemicolonsThatMayBeMissing: ahead of a }, and behind the last declaration.
func TestSemicolonsThatMayBeMissing(t *testing.T) {
	wantRead(t, program,
		"func f() {}", "func f() {};", "func f() {} ;", "func f() {}\n\n", "type P struct { x T }", "type P struct { x T; }", "type P struct { x T; y U }", "type P struct {\nx T\n}\nfunc f() {}",
		"func f() { f() }", "func f() { f(); }", "func f() {\nf()\n\n}", "func f() { f(); g() } // x", "type P struct {};type Q struct {}",
	)
	wantRead(t, stmt, "select { case <-c: f() }", "select { case <-c: f(); }", "select { case <-c: f(); case <-d: f(); default: f() }", "select {\ncase <-c:\nf()\ndefault:\n}")
	wantFaults(t, program,
		"$;", "func f() {};$;", "func f() {}\n$;", "func f() {} $func g() {}", "type P struct {} $type Q struct {}", "type P struct { $; }", "type P struct { x T;$; }", "type P struct { x T\n$; }", "type P struct { x T $y T }", "type P struct { x T$, y T }",
		"func f() { $; }", "func f() { f();$; }", "func f() { f()\n$; }", "func f() { f() $g() }", "func f() { f() $)", "func f() { f(); $) }", "func f$\n() {}", "func f()$\n{}",
	)
	wantFaults(t, stmt,
		"select { $; }", "select { default: $; }", "select { case <-c: $; }", "select { default: f();$; }", "select { default: f()\n$; }", "select { case <-c: f() $case <-d: }", "select { case <-c: f() $default: }",
		"if x {}\n$else {}", "if x {}; $else {}", "{ if x {}\n$else {} }", "if x$; {}", "{ f();$;f() }",
	)
}

// TestSemicolonsThatAreLeftOut: one behind a part of a list or a parenthesis, ahead of the sign that closes it; none behind the sign that opens it.
func TestSemicolonsThatAreLeftOut(t *testing.T) {
	for _, row := range []struct {
		e                   entry
		ahead, part, behind string
	}{
		{expr, "(", "x", ")"}, {expr, "f(", "x", ")"}, {expr, "f(x, ", "y", ")"}, {expr, "x[", "y", "]"}, {expr, "x[y, ", "[]T", "]"}, {expr, "x[", "chan T", "]"}, {expr, "P{", "x", "}"}, {expr, "P{x, ", "y", "}"},
		{expr, "make(T, ", "n", ")"}, {expr, "func(", "x T", ") {}"}, {expr, "func(x T, ", "y func()", ") T {}"}, {typed, "func(", "T", ")"}, {typed, "func(T, ", "[]U", ") T"},
		{program, "func f[", "T any", "]() {}"}, {program, "func f[T any, ", "U integer", "]() {}"}, {program, "func f(", "x T", ") {}"}, {program, "func f(x T, ", "y U", ") T {}"},
	} {
		for _, s := range []string{";", "\n", " ;", "// x\n", "\n\n\t"} {
			whole := row.ahead + row.part + s
			wantRead(t, row.e, whole+row.behind)
			wantFaults(t, row.e, whole+"$;"+row.behind, whole+"$, "+row.part+row.behind, whole+"$"+row.part+row.behind, whole+"$+ x"+row.behind, whole+"$:"+row.behind, whole+"$")
		}
		wantFaults(t, row.e, row.ahead+"$;"+row.part+row.behind, row.ahead+"$;"+row.behind)
		if row.ahead != "(" && row.ahead != "make(T, " {
			wantFaults(t, row.e, row.ahead+row.part+",$;"+row.behind, row.ahead+row.part+",$"+row.behind)
		}
	}
	wantFaults(t, expr, "f($;)", "P{$;}", "($;)", "x[$;]", "func($;) {}", "make($;)", "make(T$;)", "make(T$;, n)", "make(T,$;)", "make($;T, n)", "x[$]", "($)", "func() $; {}", "func$;() {}", "x[[$;]T]", "x.$;y", "x;$y", "x\n$.y", "f\n$(x)", "a\n$+ b")
	wantFaults(t, typed, "func($;)", "func(T;$;)", "[$;]T", "[]$;T", "[]$\nT", "chan $;T", "func$;()", "func()\n$T", "func();$T")
	wantFaults(t, program, "func f[$;]() {}", "func f[$]() {}", "func f($;) {}", "func f$;() {}", "func $;f() {}", "func f[T$;]() {}", "func f[T$\nany]() {}", "func f(x$;) {}", "type P$; struct {}", "type P struct$; {}", "type $;")
	wantRead(t, expr, "f(\nx,\ny\n)", "P{\n1,\n2\n}", "(\nx\n)", "x[\n0\n]", "a +\nb", "func(\nx T,\ny U\n) {\n}", "x.\ny", "-\nx", "make(\nT,\nn\n)")
	wantRead(t, typed, "chan\nT", "[\n]T", "func(\n)", "func(\nA,\nB\n)")
}

// TestLiteralsInHeads: none, but within brackets; and a head ends with its block.
func TestLiteralsInHeads(t *testing.T) {
	for _, word := range []string{"if ", "for "} {
		for _, head := range []string{
			"(P{})", "(P{1} == x)", "f(P{1})", "x[P{1}]", "f((P{Q{1}})) == (P{})", "(P{}.x) + 1", "make(T, P{})", "x[[]T, P{}]", "f(x, P{1}, P{})", "f(P{1;})", "(func() bool { return P{} })()", "-(P{}).x", "<-f(P{})", "x", "P", "make", "func() {}",
			// The braces of a func literal's block are brackets, too.
			"func() bool { return P{1} == x }()", "func() bool { x := P{}; select { case <-P{}: c <- P{} } }()",
		} {
			wantRead(t, stmt, word+head+" {}", word+head+" { y := P{}; f(P{1}) }", word+head+" { <-P{} }")
		}
		wantFaults(t, stmt,
			word+"P{$1} == x {}", word+"P{} ${}", word+"x == P{$1} {}", word+"P{}$.x {}", word+"-P{} ${}", word+"<-P{} $== x {}", word+"f(P{}) == P{$1} {}", word+"x[P{}].P{} ${}", word+"make{$1} {}", word+"P{$Q{}} {}", word+"(P{}) == P{} ${}",
			word+"func() bool { if P{$1} {} }() {}", word+"(func() { for P{$1} {} }) {}", word+"x { if P{} $.x {} }", word+"(P{$if x {}}) {}", word+"${}", word+"P $:= x {}", word+"$",
		)
	}
	wantFaults(t, stmt, "if x {} else if P{$1} {}", "if x {} else $P{1} {}", "if (P{}) {} else if P{} $.x {}")
	wantShown(t, stmt,
		[2]string{"if P {}", "25@0(30:P@3 20@5)"},
		[2]string{"if f(P{}) {}", "25@0(34@4(30:f@3 37:P@5) 20@10)"},
		[2]string{"if func() { f(P{}) }() {}", "25@0(34@20(38@3(6@7 7@10 20@10(24@12(34@13(30:f@12 37:P@14))))) 20@23)"},
	)
	wantRead(t, stmt, "x := P{1}", "P{}.x = P{}", "return P{}", "go P{}.f()", "c <- P{}", "P{} <- x", "f(P{})", "{ P{}.f() }", "select { case P{} <- P{}: case <-P{}: case x := <-P{}: }", "defer P{x}()")
	wantFaults(t, stmt, "$x.P{}", "f()${}", "(f())${}", "$x[0]{}", "$P{}", "$P{}.x", "x := P{$", "x := P{1$", "x := P{1,$}", "x = y.z${}", "return (P)${}")
}

// TestArguments: those in brackets that begin with [ or chan are types, all others expressions.
func TestArguments(t *testing.T) {
	wantShown(t, expr,
		[2]string{"f[T]", "36@1(30:f@0 30:T@2)"},
		[2]string{"f[[]T]", "36@1(30:f@0 11@2(10:T@4))"},
		[2]string{"f[chan T]", "36@1(30:f@0 12@2(10:T@7))"},
		[2]string{"f[int64, []T, x]", "36@1(30:f@0 30:int64@2 11@9(10:T@11) 30:x@14)"},
		[2]string{"f[[]func(A) B]", "36@1(30:f@0 11@2(13=1@4(10:A@9 10:B@12)))"},
		[2]string{"f[func() {}]", "36@1(30:f@0 38@2(6@6 7@9 20@9))"},
		[2]string{"f[(x)]", "36@1(30:f@0 30:x@3)"},
		[2]string{"f[-1]", "36@1(30:f@0 33:-@2(31=1@3))"},
		[2]string{"f[[]T](x)", "34@6(36@1(30:f@0 11@2(10:T@4)) 30:x@7)"},
		[2]string{"x[P{}]", "36@1(30:x@0 37:P@2)"},
		[2]string{"f[any, make]", "36@1(30:f@0 30:any@2 30:make@7)"},
	)
	wantFaults(t, expr,
		"f[$]", "f[x,$]", "f[func(A$) B]", "f[[]T${}]", "f[[]T$.x]", "f[chan T $+ 1]", "f[($[]T)]", "f[[$x]]", "f[[]$7]", "f[chan $(T)]", "f[[]T][$]", "f[x$:y]", "f[x $y]", "f($[]T)", "f($chan T)", "f(x,$[]T)", "$[]T", "$chan T", "f[-$[]T]", "f[func() $]", "f[x$", "f[[]T$",
	)
}

// TestNamesAndWords: make is an operand of its own only ahead of a (, and any, comparable, integer are words only as constraints.
func TestNamesAndWords(t *testing.T) {
	wantShown(t, expr,
		[2]string{"make(T, n)", "40@0(10:T@5 30:n@8)"},
		[2]string{"(make)(T, n)", "34@6(30:make@1 30:T@7 30:n@10)"},
		[2]string{"make", "30:make@0"},
		[2]string{"make.make(x)", "34@9(35:make@4(30:make@0) 30:x@10)"},
		[2]string{"make[0](x)", "34@7(36@4(30:make@0 31@5) 30:x@8)"},
		[2]string{"make{}", "37:make@0"},
		[2]string{"make + make", "33:+@5(30:make@0 30:make@7)"},
		[2]string{"make(make, make(make, make))", "40@0(10:make@5 40@11(10:make@16 30:make@22))"},
		[2]string{"make([]T, 1).x[0]()", "34@17(36@14(35:x@12(40@0(11@5(10:T@7) 31=1@10)) 31@15))"},
		[2]string{"any(comparable, integer)", "34@3(30:any@0 30:comparable@4 30:integer@16)"},
		[2]string{"any{}", "37:any@0"},
		[2]string{"x.any", "35:any@1(30:x@0)"},
	)
	wantShown(t, program,
		[2]string{"func make[any any, comparable comparable, integer integer](make make) any {}", "1@0(3:make@0(4@9(8:any=1@10 8:comparable=2@19 8:integer=3@42) 6@58(5:make@59(10:make@64)) 7@70(10:any@70) 20@74))"},
		[2]string{"type any struct { make integer }", "1@0(2:any@0(5:make@18(10:integer@23)))"},
	)
	wantRead(t, stmt, "make := 1", "make = any", "var any make", "any()", "make.x = 1", "make[0] = 1", "make <- 1", "go any()", "select { case make := <-any: }", "if make {}", "for any {}")
	wantFaults(t, expr, "make($)", "make(T$)", "make(T $n)", "make($1, n)", "make(T,$)", "make(T, n$, m)", "make(T, $[]T)", "make(T, n$", "make(T$", "make($", "make($(T), n)", "make(T$.x, n)", "make(T, n) $x", "make($-x, n)")
	wantFaults(t, program,
		"func f[T $T]() {}", "func f[T $int]() {}", "func f[T any $U any]() {}", "func f[T$]() {}", "func f[T$, U any]() {}", "func f[T $Any]() {}", "func f[T $[]any]() {}", "func f[T any $| integer]() {}", "func f[any$]() {}", "func f[T $make]() {}", "func f[T $7]() {}", "func f[any$", "func f[$[]T any]() {}",
	)
	wantFaults(t, stmt, "$make(T, n)", "$make(T, n) = 1", "$make", "go $make(T, n)", "go $any")
}

// TestReceipts: cases with a name, without one, and in parentheses.
func TestReceipts(t *testing.T) {
	wantShown(t, stmt,
		[2]string{"select { case <-c: }", "42@0(43@9(30:c@16 20@17))"},
		[2]string{"select { case (<-c): }", "42@0(43@9(30:c@17 20@19))"},
		[2]string{"select { case (( <- (c) )): }", "42@0(43@9(30:c@21 20@26))"},
		[2]string{"select { case (<-c;): }", "42@0(43@9(30:c@17 20@20))"},
		[2]string{"select { case <-<-c.d: }", "42@0(43@9(39@16(35:d@19(30:c@18)) 20@21))"},
		[2]string{"select { case x := <-c: }", "42@0(43:x@9(30:c@21 20@22))"},
		[2]string{"select { case x := <-(c): }", "42@0(43:x@9(30:c@22 20@24))"},
		[2]string{"select { case x := <-<-f(): }", "42@0(43:x@9(39@21(34@24(30:f@23)) 20@26))"},
		[2]string{"select { case <-c <- x: }", "42@0(44@9(39@14(30:c@16) 30:x@21 20@22))"},
		[2]string{"select { case (<-c) <- <-x: }", "42@0(44@9(39@15(30:c@17) 39@23(30:x@25) 20@26))"},
		[2]string{"select { case <-c + 1 <- x: }", "42@0(44@9(33:+@18(39@14(30:c@16) 31=1@20) 30:x@25 20@26))"},
		[2]string{"select { case (<-c).d <- x: }", "42@0(44@9(35:d@19(39@15(30:c@17)) 30:x@25 20@26))"},
	)
	wantFaults(t, stmt,
		"select { case c$: }", "select { case f()$: }", "select { case (c)$: }", "select { case -<-c$: }", "select { case <-c + 1$: }", "select { case (<-c)()$: }", "select { case (<-c).x$: }", "select { case P{}$: }",
		"select { case x := $c: }", "select { case x := $(<-c): }", "select { case x := <-c $+ 1: }", "select { case x := <-c $<- d: }", "select { case (x) $:= <-c: }", "select { case (x $:= <-c): }", "select { case <-c $:= <-d: }", "select { case x.y $:= <-c: }",
		"select { case x $= <-c: }", "select { case <-c $= x: }", "select { case c <- x $<- y: }", "select { case c <- x $= y: }", "select { case $: }", "select { case <-$: }", "select { case x := <-$: }", "select { case x := $", "select { case x$",
		"select { case <-c $; }", "select { case <-c $f() }", "select { $<-c: }", "select { case $default: }", "select { case <-c$\n: }", "select { case <-c: case $}", "select $case <-c: }",
		"select {$", "select { case$", "select { case <-c$", "select { case <-c:$", "select { case <-c: f()$", "select { case <-c: f();$", "select { default $}", "select { default$", "select { default:$",
	)
}

// TestBehind: a semicolon may stand behind, put or written, and nothing else.
func TestBehind(t *testing.T) {
	for _, row := range []struct {
		e    entry
		text string
	}{
		{expr, "x"}, {expr, "f(x)"}, {expr, "7"}, {expr, "P{}"}, {expr, "func() {}"}, {expr, "true"}, {expr, "a + b"}, {typed, "T"}, {typed, "[]chan T"}, {typed, "func()"}, {typed, "func() T"},
		{stmt, "{}"}, {stmt, "f()"}, {stmt, "x = 1"}, {stmt, "break"}, {stmt, "return"}, {stmt, "return x"}, {stmt, "var x T"}, {stmt, "if x {}"}, {stmt, "if x {} else {}"}, {stmt, "for x {}"}, {stmt, "select {}"}, {stmt, "go f()"}, {stmt, "c <- x"}, {stmt, "x := 1"},
		{program, "func f() {}"}, {program, "type P struct {}"},
	} {
		wantRead(t, row.e, row.text, row.text+";", row.text+" ; ", row.text+"\n", row.text+" // x", row.text+"\n\n // x\n", row.text+"; // x\n", " \n"+row.text+";\n\n")
		for _, s := range []string{";", " ;", "\n", " // x\n"} {
			wantFaults(t, row.e, row.text+s+"$;", row.text+s+"$)", row.text+s+"$}", row.text+s+"$x", row.text+s+"$7", row.text+s+"$else {}", row.text+s+"$+ x", row.text+s+"$= x", row.text+s+"\n\t$:")
		}
		wantFaults(t, row.e, row.text+" $)", row.text+" $}", row.text+" $]", row.text+" $,", row.text+" $:", row.text+" $case", row.text+" $default")
	}
}
