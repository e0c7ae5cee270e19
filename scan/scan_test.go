package scan_test

import (
	"slices"
	"strings"
	"testing"

	"mullion/api"
	"mullion/scan"
)

// P3.1.

func name(s string, at int) api.Token { return api.Token{Kind: api.KName, Text: s, At: at} }
func word(s string, at int) api.Token { return api.Token{Kind: api.KWord, Text: s, At: at} }
func sign(s string, at int) api.Token { return api.Token{Kind: api.KSign, Text: s, At: at} }
func put(at int) api.Token            { return api.Token{Kind: api.KSemi, At: at} }
func semi(at int) api.Token           { return api.Token{Kind: api.KSemi, Text: ";", At: at} }
func num(s string, n uint64, at int) api.Token {
	return api.Token{Kind: api.KInt, Text: s, N: n, At: at}
}

// some answers the first of many tokens, to be shown.
func some(l []api.Token) []api.Token { return l[:min(len(l), 40)] }

// wantList asks for these tokens of s.
func wantList(t *testing.T, s string, want ...api.Token) {
	t.Helper()
	if got, at, e := scan.Tokens(s); !slices.Equal(got, want) || at != 0 || e != api.OK {
		t.Errorf("Tokens(%.200q) = %v, %d, %d, not %v", s, some(got), at, e, some(want))
	}
}

// wantFault asks for an error of s, and its place.
func wantFault(t *testing.T, s string, at int, e api.Errno) {
	t.Helper()
	if l, gotAt, gotE := scan.Tokens(s); len(l) > 0 || gotAt != at || gotE != e {
		t.Errorf("Tokens(%.200q) = %v, %d, %d, not the place %d and %d", s, some(l), gotAt, gotE, at, e)
	}
}

func TestExamples(t *testing.T) {
	wantList(t, "x := 0x1F // y\n", name("x", 0), sign(":=", 2), num("0x1F", 31, 5), put(14))
	wantList(t, "+\nb", sign("+", 0), name("b", 2), put(3))
	wantList(t, "a +\nb", name("a", 0), sign("+", 2), name("b", 4), put(5))
	wantFault(t, "07", 0, api.ErrToken)
	wantFault(t, "1x", 0, api.ErrToken)
	wantFault(t, "#", 0, api.ErrToken)
	wantList(t, "a&^b", name("a", 0), sign("&^", 1), name("b", 3), put(4))
	wantList(t, "<--", sign("<-", 0), sign("-", 2))
}

func TestNothing(t *testing.T) {
	for _, s := range []string{"", " ", "\n", "\n\n \t\r\n", "//", "// x", "//\n", " // x\n// 07 # \"\n"} {
		wantList(t, s)
	}
}

// TestEachSign: alone; between names, blanks about it and none; and it asks for no semicolon, but those that close.
func TestEachSign(t *testing.T) {
	for _, g := range theSigns {
		token := sign(g, 0)
		if g == ";" {
			token = semi(0)
		}
		n := len(g)
		want := []api.Token{token}
		if g == ")" || g == "]" || g == "}" {
			want = append(want, put(n))
		}
		wantList(t, g, want...)
		wantList(t, g+"\n", want...)
		token.At = 1
		wantList(t, "a"+g+"b", name("a", 0), token, name("b", 1+n), put(2+n))
		token.At = 2
		wantList(t, "a "+g+" b", name("a", 0), token, name("b", 3+n), put(4+n))
	}
}

// TestLongestSign: what signs that stand side by side are cut into.
func TestLongestSign(t *testing.T) {
	for s, want := range map[string]string{
		"<<<": "<< <", "<<=": "<< =", "<<-": "<< -", "<-<": "<- <", "<--": "<- -", "<-=": "<- =", "<=-": "<= -", "<==": "<= =", "<=<": "<= <", "< -": "< -", "< <": "< <", "<:": "< :",
		">>>": ">> >", ">>=": ">> =", ">==": ">= =", ">->": "> - >", "> >": "> >", "->": "- >",
		"&&&": "&& &", "&^&": "&^ &", "&^^": "&^ ^", "&&^": "&& ^", "&^=": "&^ =", "& ^": "& ^", "& &": "& &", "^&": "^ &", "&|": "& |",
		"|||": "|| |", "| |": "| |", "||=": "|| =", "===": "== =", "====": "== ==", "= =": "= =", "=!=": "= !=", "!==": "!= =", "!!=": "! !=", "! =": "! =",
		":==": ":= =", "::=": ": :=", ": =": ": =", "=:": "= :", "..": ". .", "...": ". . .", "++": "+ +", "--": "- -", "+=": "+ =", "-=": "- =", "*=": "* =", "%=": "% =", "/=": "/ =", "^=": "^ =", "|=": "| =", "&=": "& =",
		"/*": "/ *", "*/": "* /", "/ /": "/ /", ";;": "; ;", "([{": "( [ {", ",;:.": ", ; : .",
	} {
		got, at, e := scan.Tokens(s)
		var texts []string
		for i, x := range got {
			if s[x.At:x.At+len(x.Text)] != x.Text || i > 0 && x.At <= got[i-1].At {
				t.Errorf("Tokens(%q): token %d is %v", s, i, x)
			}
			texts = append(texts, x.Text)
		}
		if strings.Join(texts, " ") != want || at != 0 || e != api.OK {
			t.Errorf("Tokens(%q) = %q, %d, %d, not %s", s, texts, at, e, want)
		}
	}
}

// TestEachWord: only five of them ask for a semicolon, and a word is no part of a longer name.
func TestEachWord(t *testing.T) {
	for _, w := range theWords {
		want := []api.Token{word(w, 0)}
		if slices.Contains([]string{"break", "continue", "return", "true", "false"}, w) {
			want = append(want, put(len(w)))
		}
		wantList(t, w, want...)
		wantList(t, w+"\n", want...)
		for _, n := range []string{w + "0", w + "_", "_" + w, w + w, w + "\u00e9", strings.ToUpper(w), strings.ToUpper(w[:1]) + w[1:]} {
			wantList(t, n, name(n, 0), put(len(n)))
		}
	}
	for _, n := range []string{"any", "comparable", "integer", "make", "int64", "bool", "package", "import", "range", "switch", "map", "nil", "const", "goto", "interface", "fallthrough"} {
		wantList(t, n, name(n, 0), put(len(n)))
	}
}

func TestSemicolons(t *testing.T) {
	// At the line's end, behind blanks and comments; at the text's end; and one a line.
	wantList(t, "a", name("a", 0), put(1))
	wantList(t, "a \t", name("a", 0), put(3))
	wantList(t, "a\n", name("a", 0), put(1))
	wantList(t, "a\r\nb", name("a", 0), put(2), name("b", 3), put(4))
	wantList(t, "a // b", name("a", 0), put(6))
	wantList(t, "a // b\r\n", name("a", 0), put(7))
	wantList(t, "a//", name("a", 0), put(3))
	wantList(t, "a//\n//", name("a", 0), put(3))
	wantList(t, "a\n\n\nb", name("a", 0), put(1), name("b", 4), put(5))
	wantList(t, "\n\n 7 \n", num("7", 7, 3), put(5))
	wantList(t, "a\n ", name("a", 0), put(1))
	// None where no token stands ahead in the line, or the last one asks for none.
	wantList(t, "a;", name("a", 0), semi(1))
	wantList(t, "a;\n", name("a", 0), semi(1))
	wantList(t, "a; // b", name("a", 0), semi(1))
	wantList(t, ";\n;", semi(0), semi(2))
	wantList(t, "a;;", name("a", 0), semi(1), semi(2))
	wantList(t, "a +\n\n// c\n1", name("a", 0), sign("+", 2), num("1", 1, 10), put(11))
	wantList(t, "if x {\n}\n", word("if", 0), name("x", 3), sign("{", 5), sign("}", 7), put(8))
	wantList(t, "f(\n)\n", name("f", 0), sign("(", 1), sign(")", 3), put(4))
	wantList(t, "x[0]", name("x", 0), sign("[", 1), num("0", 0, 2), sign("]", 3), put(4))
	wantList(t, "return\nbreak\ncontinue", word("return", 0), put(6), word("break", 7), put(12), word("continue", 13), put(21))
}

func TestComments(t *testing.T) {
	wantList(t, "a//b\nc", name("a", 0), put(4), name("c", 5), put(6))
	wantList(t, "a/b//c/d", name("a", 0), sign("/", 1), name("b", 2), put(8))
	wantList(t, "a/ /b", name("a", 0), sign("/", 1), sign("/", 3), name("b", 4), put(5))
	wantList(t, "a///\n+", name("a", 0), put(4), sign("+", 5))
	wantList(t, "+//\n", sign("+", 0))
	// What is no token, and any character, may stand in one.
	c := "// # 07 1x \x00 \u4e00 \ufffd " + strings.Repeat("n", 65) + "\n"
	wantList(t, c+"a", name("a", len(c)), put(len(c)+1))
	wantList(t, "a // \r b\n", name("a", 0), put(8))
	wantFault(t, "// \xff", 3, api.ErrUtf8)
}

func TestNumbers(t *testing.T) {
	for s, n := range map[string]uint64{
		"0": 0, "1": 1, "9": 9, "10": 10, "1234567890": 1234567890, "18446744073709551615": 1<<64 - 1, "9223372036854775808": 1 << 63,
		"0x0": 0, "0x00": 0, "0x7": 7, "0xa": 10, "0xF": 15, "0xaBcDeF": 0xabcdef, "0x0123456789": 0x123456789, "0xffffffffffffffff": 1<<64 - 1, "0xFFFFFFFFFFFFFFFF": 1<<64 - 1,
		"0x0ffffffffffffffff": 1<<64 - 1, "0x" + strings.Repeat("0", 100) + "12": 18,
	} {
		wantList(t, s, num(s, n, 0), put(len(s)))
		wantList(t, "-"+s+".x", sign("-", 0), num(s, n, 1), sign(".", 1+len(s)), name("x", 2+len(s)), put(3+len(s)))
		if got, e := scan.Number(s); got != n || e != api.OK {
			t.Errorf("Number(%q) = %d, %d", s, got, e)
		}
	}
	for _, s := range []string{"00", "01", "07", "09", "0_", "0b1", "0o7", "0X1", "0x", "0x_", "0xg", "0xfg", "0x1x", "00x1", "1x", "1a", "1e3", "1_000", "9\u00e9", "1u", "99999999999999999999999x", "0xffffffffffffffffffg"} {
		wantFault(t, s, 0, api.ErrToken)
		wantFault(t, "a +\n\t"+s+" 07", 5, api.ErrToken)
		if n, e := scan.Number(s); n != 0 || e != api.ErrToken {
			t.Errorf("Number(%q) = %d, %d", s, n, e)
		}
	}
	for _, s := range []string{"18446744073709551616", "18446744073709551620", "99999999999999999999", "100000000000000000000000000000000000000000", "0x10000000000000000", "0xfffffffffffffffff", strings.Repeat("9", 60000)} {
		wantFault(t, s, 0, api.ErrLarge)
		wantFault(t, "a +\n\t"+s+" 07", 5, api.ErrLarge)
		if n, e := scan.Number(s); n != 0 || e != api.ErrLarge {
			t.Errorf("Number(%.30q) = %d, %d", s, n, e)
		}
	}
}

// TestFaultPlaces: the first fault is told, with the place where it begins.
func TestFaultPlaces(t *testing.T) {
	wantFault(t, "a \xff", 2, api.ErrUtf8)
	wantFault(t, "\u00e9\xc3", 2, api.ErrUtf8)
	wantFault(t, "a\xe2\x82 b", 1, api.ErrUtf8)
	wantFault(t, "\ufffd\x80", 3, api.ErrUtf8)
	wantFault(t, "ab\xed\xa0\x80", 2, api.ErrUtf8)
	// A byte that belongs to no character goes ahead of any token.
	wantFault(t, "# 07 \xff", 5, api.ErrUtf8)
	wantFault(t, strings.Repeat("n", 65)+" \xff\xfe", 66, api.ErrUtf8)
	// A character that is whole is a fault only as a token.
	wantFault(t, "a \ufffd", 2, api.ErrToken)
	wantFault(t, "a\u00d7b", 1, api.ErrToken)
	wantFault(t, "x \x00", 2, api.ErrToken)
	wantFault(t, "x\n#", 2, api.ErrToken)
	wantFault(t, "x\v", 1, api.ErrToken)
	wantFault(t, "x\u00a0", 1, api.ErrToken)
	for _, c := range "#@$?~'\"`\\" {
		wantFault(t, "\u00e9 "+string(c), 3, api.ErrToken)
	}
	wantFault(t, "# 07", 0, api.ErrToken)
	wantFault(t, "1x 18446744073709551616", 0, api.ErrToken)
	wantFault(t, "18446744073709551616 1x", 0, api.ErrLarge)
	wantFault(t, "a 18446744073709551616 "+strings.Repeat("n", 65), 2, api.ErrLarge)
	wantFault(t, "a "+strings.Repeat("n", 65)+" #", 2, api.ErrLarge)
}

func TestNameLength(t *testing.T) {
	for _, n := range []string{strings.Repeat("n", 64), strings.Repeat("\u00e9", 32), "_" + strings.Repeat("9", 63)} {
		wantList(t, n, name(n, 0), put(64))
		wantFault(t, n+"9", 0, api.ErrLarge)
		wantFault(t, "x."+n+"\u00e9 y", 2, api.ErrLarge)
		wantFault(t, "x."+n+strings.Repeat("b", 9000)+" y", 2, api.ErrLarge)
	}
}

func TestTextLength(t *testing.T) {
	n := api.MaxText
	wantList(t, strings.Repeat(" ", n-1)+"a", name("a", n-1), put(n))
	wantList(t, "a//"+strings.Repeat("/", n-3), name("a", 0), put(n))
	wantList(t, strings.Repeat("\n", n))
	wantFault(t, strings.Repeat(" ", n)+"a", 0, api.ErrLarge)
	// Ahead of all else.
	wantFault(t, " #\xff"+strings.Repeat(" ", n), 0, api.ErrLarge)
	wantFault(t, strings.Repeat(" ", n-1)+"\xff", n-1, api.ErrUtf8)
	wantFault(t, strings.Repeat(" ", n-1)+"#", n-1, api.ErrToken)
}

// wantCount asks for n tokens of s.
func wantCount(t *testing.T, s string, n int) {
	t.Helper()
	if l, at, e := scan.Tokens(s); len(l) != n || at != 0 || e != api.OK {
		t.Errorf("Tokens(%.20q..) has %d tokens, %d, %d, not %d", s, len(l), at, e, n)
	}
	wantTokens(t, s)
}

func TestNumberOfTokens(t *testing.T) {
	n := api.MaxTokens
	commas := strings.Repeat(",", n)
	wantCount(t, commas, n)
	wantCount(t, commas+"\n // end", n)
	wantFault(t, commas+" ,", n+1, api.ErrLarge)
	wantFault(t, commas+"a", n, api.ErrLarge)
	wantFault(t, commas+"1", n, api.ErrLarge)
	wantFault(t, commas+"if", n, api.ErrLarge)
	wantFault(t, commas+"\n\n;", n+2, api.ErrLarge)
	// Those that are put count, and have their place.
	wantCount(t, commas[1:]+"+", n)
	wantFault(t, commas[1:]+"a", n, api.ErrLarge)
	wantFault(t, commas[1:]+"a // b\nc", n+5, api.ErrLarge)
	wantFault(t, commas[1:]+"a  ", n+2, api.ErrLarge)
	wantCount(t, commas[2:]+"a", n)
	wantCount(t, strings.Repeat("a\n", n/2), n)
	wantFault(t, strings.Repeat("a\n", n/2)+"a", n, api.ErrLarge)
	wantFault(t, strings.Repeat("a\n", n/2)+"\n\n#", n+2, api.ErrToken)
	// What is no token is told ahead of the number of tokens, at one place; a fault behind it is not told.
	wantFault(t, commas+"#", n, api.ErrToken)
	wantFault(t, commas+"07", n, api.ErrToken)
	wantFault(t, commas+",#", n, api.ErrLarge)
	wantFault(t, commas[1:]+"#,,", n-1, api.ErrToken)
	wantFault(t, commas+",\xff", n+1, api.ErrUtf8)
}

// TestTokensAnew: what is answered is new, spare room included.
func TestTokensAnew(t *testing.T) {
	s := "x := f(1)\n"
	a, _, _ := scan.Tokens(s)
	b, _, _ := scan.Tokens(s)
	want := slices.Clone(b)
	for i := range a[:cap(a)] {
		a[:cap(a)][i] = api.Token{Kind: -1, Text: "spoilt", N: 1, At: -1}
	}
	c, _, _ := scan.Tokens(s)
	if !slices.Equal(b, want) || !slices.Equal(c, want) {
		t.Errorf("lists share memory: %v, %v", b, c)
	}
}

// P3.2.

func TestName(t *testing.T) {
	for _, s := range []string{"a", "Z", "_", "_9", "x1", "\u00c0", "\u00d6", "\u00d8", "\u00f6", "\u00f8", "\u024f", "funcs", "Func", "any", "make", "int8", strings.Repeat("n", 64), strings.Repeat("\u00e9", 32)} {
		if !scan.Name(s) {
			t.Errorf("Name(%q) = false", s)
		}
	}
	none := []string{
		"", " ", "0", "1a", "a b", " a", "a ", "a\n", "a-b", "a.b", ";", "\u00d7", "\u00f7", "a\u00d7", "\u0250", "\u00bf", "a\x00", "\xc3", "a\xff", "\ufffd", "\u4e00", "a\u0660",
		strings.Repeat("n", 65), strings.Repeat("\u00e9", 32) + "n", strings.Repeat("n", 70000),
	}
	for _, s := range append(none, theWords...) {
		if scan.Name(s) {
			t.Errorf("Name(%.80q) = true", s)
		}
	}
}

func TestWord(t *testing.T) {
	if len(theWords) != 18 {
		t.Fatalf("the chapter has 18 words, not %d", len(theWords))
	}
	for _, w := range theWords {
		if !scan.Word(w) {
			t.Errorf("Word(%q) = false", w)
		}
		for _, s := range []string{w[1:], w[:len(w)-1], w + "s", " " + w, w + " ", w + "\n", strings.ToUpper(w), w + "\x00"} {
			if scan.Word(s) {
				t.Errorf("Word(%q) = true", s)
			}
		}
	}
	for _, s := range []string{"", "x", "any", "comparable", "integer", "make", "bool", "int64", "package", "import", "range", "switch", "map", "const", "goto", "interface", "fallthrough", "nil", "\xff", wordList} {
		if scan.Word(s) {
			t.Errorf("Word(%q) = true", s)
		}
	}
}

func TestNumber(t *testing.T) {
	for _, s := range []string{"", " ", "+1", "-1", " 1", "1 ", "1\n", "x", "0x", "0x ", "0x+1", "0x-1", "0x0x1", "x1", "1.5", "1;", "\u0661", "1\u0661", "\xff", "1\xff", "1\x00"} {
		if n, e := scan.Number(s); n != 0 || e != api.ErrToken {
			t.Errorf("Number(%q) = %d, %d", s, n, e)
		}
	}
	for i := range 16 {
		digits := "0123456789abcdefABCDEF"
		for _, c := range digits {
			for _, s := range []string{"0x" + strings.Repeat("1", i) + string(c), "1" + strings.Repeat("0", i) + string(c), string(c) + strings.Repeat("9", i)} {
				got, e := scan.Number(s)
				if n, want := modelNumber(s); got != n || e != want {
					t.Errorf("Number(%q) = %d, %d, not %d, %d", s, got, e, n, want)
				}
			}
		}
	}
	// No text is too long for a number.
	if n, e := scan.Number("0x" + strings.Repeat("0", 100000) + "ff"); n != 255 || e != api.OK {
		t.Errorf("Number of many zeros = %d, %d", n, e)
	}
}
