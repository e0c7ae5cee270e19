package parse_test

import (
	"strings"
	"testing"

	"mullion/api"
)

// TestFaultsOfTokens: they go ahead of all others.
func TestFaultsOfTokens(t *testing.T) {
	long := strings.Repeat("n", api.MaxName+1)
	for _, e := range entries {
		for _, row := range []struct {
			text string
			at   int
			err  api.Errno
		}{
			{"#", 0, api.ErrToken}, {"x 07", 2, api.ErrToken}, {") 1x", 2, api.ErrToken}, {"x 'a'", 2, api.ErrToken}, {";; \"", 3, api.ErrToken}, {") \u4e16", 2, api.ErrToken}, {"x \x80", 2, api.ErrUtf8}, {"# \xff", 2, api.ErrUtf8},
			{") " + long, 2, api.ErrLarge}, {"x " + long + " #", 2, api.ErrLarge}, {"( 18446744073709551616", 2, api.ErrLarge}, {"] 0x10000000000000000", 2, api.ErrLarge},
			{strings.Repeat(" ", api.MaxText+1), 0, api.ErrLarge}, {strings.Repeat("\xff", api.MaxText+1), 0, api.ErrLarge}, {strings.Repeat(" ", api.MaxText-1) + "#", api.MaxText - 1, api.ErrToken},
			{strings.Repeat(")", api.MaxTokens), api.MaxTokens, api.ErrLarge}, {strings.Repeat("<", api.MaxTokens*2+1), api.MaxTokens * 2, api.ErrLarge},
		} {
			wantFault(t, e, row.text, row.at, row.err)
		}
		wantFault(t, e, strings.Repeat("<", api.MaxTokens*2), 0, api.ErrText)
		wantFault(t, e, strings.Repeat(")", api.MaxTokens-1), 0, api.ErrText)
		wantFault(t, e, strings.Repeat(" ", api.MaxText-1)+")", api.MaxText-1, api.ErrText)
	}
	wantRead(t, program, strings.Repeat(" ", api.MaxText))
	wantFault(t, expr, strings.Repeat(" ", api.MaxText), api.MaxText, api.ErrText)
}

func TestEndOfText(t *testing.T) {
	for _, s := range []string{"", " ", "\n", " // x", "\t\n// y\n ", "\r\n"} {
		wantRead(t, program, s)
		for _, e := range entries[1:] {
			wantFault(t, e, s, len(s), api.ErrText)
		}
	}
	wantFaults(t, program,
		"func$", "func f($", "func f(x T$", "func f(x T,$", "func f() {$", "func f() { f()$", "func f() { f();$", "func f() { f()\n$", "func f() { f()\n // x\n $", "func f() { if x { // y$", "func f() { {}$", "type$", "type P struct {$", "type P struct { x$", "type P struct { x T$", "type P struct { x T;$", "func f[T$", "func f[T any,$", "func f() [$",
	)
	// Semicolons that are put at the text's end stand there; others where their line ends.
	wantFaults(t, program, "func f()$", "func f() // x$", "func f$", "func f() T$", "func f() T // x$", "func f()$\n", "func f() // x$\n{}", "func f() T$\n{}", "type P$\nstruct {}", "type P$")
	wantFaults(t, stmt, "if x$", "if x$\n", "for x$\n{ }", "go$", "go\n$", "select$", "select {$", "var x$", "var$", "x :=$", "x =$", "c <-$", "if x {} else$", "if x {} else if$", "f($", "x = (y$", "{$", "{ {}$")
	wantFaults(t, expr, "x.$", "x. $", "x. // y$", "f($", "f(x$", "f(x;$", "f(x\n$", "x[$", "(x$", "(x;$", "P{$", "func$", "func($", "func()$", "func() {$", "-$")
	wantFaults(t, typed, "[$", "[]$", "chan$", "chan\n$", "func$", "func($", "func(T$", "func(T,$", "func(T;$")
}

func TestFirstTokenThatCannotGoOn(t *testing.T) {
	wantFaults(t, program,
		"$x", "$)", "$5", "$var x T", "$if x {}", "$struct {}", "func f() {} $x", "func f() {} $)", "func f() {} $}", "func f() {}; $}", "func f() {}; $x",
		"type P $T", "type P $[]T", "type $5", "type $func", "type P struct $x", "type P struct { x T $= 1 }", "type P struct { x$, y T }", "type P struct { $[]T }", "type P struct { x $struct {} }", "type P struct { $case T }", "type P$[T any] struct {}",
		"func $(x T) f() {}", "func f(x$) {}", "func f($[]T) {}", "func f(x$, y T) {}", "func f(x T $y T) {}", "func f(x T,$) {}", "func f(x T$.U) {}", "func f() $(T) {}", "func f() T $U {}", "func f() $, {}", "func f() $= {}", "func f() chan ${}", "func f() []${}", "func f() func ${}",
		"func f() { func $g() {} }", "func f() { $type P struct {} }", "func f() { $case x: }", "func f() { $default: }", "func f() { $else {} }", "func f() { f() $else {} }", "func f() { var x T $= 1 }", "func f() { var x$, y T }", "func f() { x +$+ }", "func f() { x +$= 1 }", "func f() { return 1$, 2 }", "func f() { break $x }",
	)
	wantFaults(t, stmt,
		"{ f() } $}", "f() $g()", "f() $:= 1", "f() +$+", "x = y $= z", "x = y $:= z", "x := y $= z", "x := $:= y", "x := $= y", "c <- x $<- y", "c <- x $= y", "return x $y", "return $)", "return $= x", "return $return", "break $x", "break $= x", "continue $7",
		"var x$.y T", "var x T $U", "var x T $= 1", "var $7 T", "if x $y {}", "if x {} $y", "if x {} $if y {}", "if x {} else $y", "if x {} else {} $else {}", "if x$; y {}", "if x $:= y {}", "if x$, y {}", "for $; ; {}", "for ${}", "for x$; y {}", "for x $= y {}", "for $var x T {}",
		"go $go f()", "go $;", "defer $}", "go $return", "select $x {}", "select { $x }", "select {} $x", "x = $[]T", "x := $chan T", "f() $, x",
		"$[]T", "$chan T", "$)", "$]", "$}", "$,", "$:", "$.", "$=", "$:=", "$+", "$case", "$default", "$else", "$type", "$struct",
	)
	wantFaults(t, expr,
		"x.$5", "x.$func", "x.$(T)", "x.$[0]", "x.$.y", "x[0$:1]", "(x$, y)", "f(x $y)", "f(x $= y)", "f(x $:= y)", "P{x$: y}", "P{x,$}", "func $f() {}", "func() T $(x)", "func(x$) {}", "func(x T) $;", "func() {} ${}", "($)", "x$)", "x$]", "x$}", "x$,", "x$:",
		"$if", "$return", "$break", "$struct {}", "$type", "$var", "x $func", "x $true", "true $false", "7 $x", "7${}", "x $if", "P{} ${}", "x.y${}", "f()${}", "(P)${}", "true${}", "func() {}() ${}", "- $) x",
	)
	wantFaults(t, typed,
		"$7", "$(T)", "T $U", "T$.U", "T$[]", "T$(", "T${}", "[$7]T", "[$T]", "[] $)", "chan $<- T", "$<-chan T", "chan $7", "$struct {}", "func $T", "func(x $T)", "func(T,$)", "func() T $U", "func(T) $(U)", "func() $, T", "func() ${}", "$true", "$-T", "$if",
	)
}

// TestStatementsAlone: what is neither a call nor a receipt is no statement; it is at fault as a whole, when it has been read.
func TestStatementsAlone(t *testing.T) {
	for _, s := range []string{
		"x", "(x)", "7", "true", "-x", "-f()", "!<-c", "f() + 1", "<-c + 1", "x.y", "x[0]", "P{}", "P{f()}", "func() {}", "make(T, n)", "f().x", "f()[0]", "((f().x))", "-(f())", "(x.y)", "f[T]", "x == y", "(func() {})",
	} {
		wantFaults(t, stmt, "$"+s, "$"+s+";", "$"+s+" ]", "$"+s+" )", "$"+s+" x", "$"+s+" }", "$"+s+" 7", "$"+s+" , x", "$"+s+" : x", "$"+s+"\n:= 1", " \n$"+s+"\n", "{ f(); $"+s+" }", "{ $"+s+"\nf(\n", "if x { $"+s+" }", "select { default: $"+s+" }")
		wantFaults(t, stmt, "go $"+s, "defer $"+s+";", "go $"+s+" = x", "go $"+s+" ]", "defer $"+s+" x", "go $"+s+" := x", "go $"+s+" <- x", "{ go $"+s+"\n } )")
		wantFaults(t, program, "func f() { $"+s+" }", "func f() { g(func() { $"+s+" }) x", "func f() { defer $"+s+" }")
		if s != "x" {
			wantFaults(t, stmt, "$"+s+" := 1")
		}
	}
	// What has not been read to its end is at fault where it can't go on.
	wantFaults(t, stmt, "x +$", "x + $]", "x.$7", "x[0$", "x[0 $)", "x = $]", "f() = $]", "7 =$", "f() = x + $+", "(x$", "(x;$", "(x $]", "go x +$", "go (x$", "go x.$]", "x <- $]", "f() = x[$]", "P{$]", "func() {$]", "-$]")
}

func TestCallsAndReceiptsAlone(t *testing.T) {
	calls := []string{"f()", "(f())", "((f)())", "x.f()", "x[0]()", "f()()", "func() {}()", "P{}()", "f[T]()", "7()", "(make)(x)", "(<-c)()", "make(T, n)()"}
	for _, s := range append([]string{"<-c", "(<-c)", "<-f()", "<-c.d", "<-(c)", "<-<-c", "<--x"}, calls...) {
		wantRead(t, stmt, s, s+";", "{ "+s+" }", "{ "+s+"; "+s+" }", "select { default: "+s+" }")
		wantFaults(t, stmt, s+" $]", s+" $:= 1", s+" $x", s+";$x", s+" $}")
	}
	for _, s := range calls {
		wantRead(t, stmt, "go "+s, "defer "+s, "{ go "+s+"\ndefer "+s+" }")
		wantFaults(t, stmt, "go "+s+" $]", "go "+s+" $= x", "defer "+s+" $x", "go "+s+" $<- x", "go $"+s+" + 1", "defer $-"+s, "go $"+s+".x")
	}
	wantFaults(t, stmt, "go $<-c", "defer $(<-c)", "go $((x))", "defer $(-f())", "go $(<-f())")
}

func TestLeftSides(t *testing.T) {
	for _, s := range []string{"x", "(x)", "x.y", "((x.y))", "x[0]", "(x)[0]", "f().x", "f()[0]", "P{}.x", "(-x).y", "(<-c).x", "x[0, 1]", "make", "f[[]T]"} {
		wantRead(t, stmt, s+" = 1", s+" = "+s, "{ "+s+" = 1 }", s+" = 1;")
		wantFaults(t, stmt, s+" = 1 $]", s+" = 1 $= 2", s+" =$", s+" = $;", s+" = $= 1", s+" = 1;$1", s+" = 1 $:= 2")
	}
	for _, s := range []string{"7", "true", "f()", "(f())", "<-c", "<-c.x", "-x", "-x.y", "x + y", "x.y + 1", "P{}", "func() {}", "make(T, n)", "(<-c)", "!x[0]", "(x + y)"} {
		wantFaults(t, stmt, "$"+s+" = 1", "$"+s+" = 1 ]", "$"+s+" = "+s+";", "$"+s+" = 1 = 2", "$"+s+" = x := y", "$"+s+" = x <- y", "{ f(); $"+s+" = x\n }", "{ $"+s+" = x }")
		wantFaults(t, stmt, s+" =$", s+" = 1 +$", s+" = $]", s+" = f($]")
	}
}

func TestSecondDefault(t *testing.T) {
	wantRead(t, stmt, "select { default: }", "select { case <-c: default: case <-d: }", "select { default: select { default: } }", "select { case <-c: select { default: }; default: }", "{ select { default: }; select { default: } }")
	wantFaults(t, stmt,
		"select { default: $default: }", "select { default: case <-c: $default: }", "select { default: f(); $default: }", "select { default: f()\n$default: }", "select { default: $default ]", "select { default: $default: x }", "select { default: $default", "select { case <-c: default: case <-d: $default: default: }",
		"select { default: select { default: $default: } }", "select { default: select { default: }; $default: }", "select { default: f() $default: }", "select { default: $x; default: }", "select { default $default: }", "select { default: $) }", "select { default: $else }",
	)
}
