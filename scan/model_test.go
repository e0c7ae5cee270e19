package scan_test

import (
	"math/big"
	"math/rand"
	"regexp"
	"slices"
	"strings"
	"testing"
	"unicode/utf8"

	"mullion/api"
	"mullion/scan"
)

// The model reads a text as the chapter tells it: line by line, by regular expressions, numbers as big integers.

const (
	letters  = `A-Za-z_\x{C0}-\x{D6}\x{D8}-\x{F6}\x{F8}-\x{24F}`
	wordList = "func type struct if else for break continue return go defer select case default chan var true false"
	signList = "+ - * / % & | ^ << >> &^ && || ! == != < <= > >= = := ( ) [ ] { } , . : <- ;"
)

var (
	theWords  = strings.Fields(wordList)
	theSigns  = strings.Fields(signList)
	enders    = strings.Fields("break continue return true false ) ] }")
	skipped   = regexp.MustCompile(`^(?:[\t\r ]+|//.*)`)
	spanned   = regexp.MustCompile(`^[` + letters + `0-9]+`)
	aName     = regexp.MustCompile(`^[` + letters + `][` + letters + `0-9]*$`)
	aNumber   = regexp.MustCompile(`^(?:0|[1-9][0-9]*|0x[0-9a-fA-F]+)$`)
	aSign     = anySign()
	tooGreat  = new(big.Int).Lsh(big.NewInt(1), 64)
	theBlanks = []string{" ", "\t", "\r", " \t\r "}
)

// anySign finds the longest sign that a text begins with.
func anySign() *regexp.Regexp {
	var all []string
	for _, s := range theSigns {
		all = append(all, regexp.QuoteMeta(s))
	}
	r := regexp.MustCompile("^(?:" + strings.Join(all, "|") + ")")
	r.Longest()
	return r
}

func modelNumber(s string) (uint64, api.Errno) {
	if !aNumber.MatchString(s) {
		return 0, api.ErrToken
	}
	n := new(big.Int)
	if h, ok := strings.CutPrefix(s, "0x"); ok {
		n.SetString(h, 16)
	} else {
		n.SetString(s, 10)
	}
	if n.Cmp(tooGreat) >= 0 {
		return 0, api.ErrLarge
	}
	return n.Uint64(), api.OK
}

func modelName(s string) bool {
	return aName.MatchString(s) && len(s) <= 64 && !slices.Contains(theWords, s)
}

// modelToken: the token that s begins with.
func modelToken(s string) (api.Token, api.Errno) {
	if w := spanned.FindString(s); w != "" {
		if '0' <= w[0] && w[0] <= '9' {
			n, e := modelNumber(w)
			return api.Token{Kind: api.KInt, Text: w, N: n}, e
		}
		if slices.Contains(theWords, w) {
			return api.Token{Kind: api.KWord, Text: w}, api.OK
		}
		if len(w) > 64 {
			return api.Token{}, api.ErrLarge
		}
		return api.Token{Kind: api.KName, Text: w}, api.OK
	}
	switch g := aSign.FindString(s); g {
	case "":
		return api.Token{}, api.ErrToken
	case ";":
		return api.Token{Kind: api.KSemi, Text: g}, api.OK
	default:
		return api.Token{Kind: api.KSign, Text: g}, api.OK
	}
}

// modelLine: the tokens of a line that begins at the place at, a semicolon that is put included, up to the first fault.
func modelLine(line string, at int) ([]api.Token, int, api.Errno) {
	var all []api.Token
	for line != "" {
		if b := skipped.FindString(line); b != "" {
			at, line = at+len(b), line[len(b):]
			continue
		}
		t, e := modelToken(line)
		if e != api.OK {
			return all, at, e
		}
		t.At = at
		all = append(all, t)
		at, line = at+len(t.Text), line[len(t.Text):]
	}
	if len(all) > 0 {
		last := all[len(all)-1]
		if last.Kind == api.KName || last.Kind == api.KInt || slices.Contains(enders, last.Text) {
			all = append(all, api.Token{Kind: api.KSemi, At: at})
		}
	}
	return all, 0, api.OK
}

func modelTokens(s string) ([]api.Token, int, api.Errno) {
	if len(s) > 65536 {
		return nil, 0, api.ErrLarge
	}
	for i := 0; i < len(s); {
		c, n := utf8.DecodeRuneInString(s[i:])
		if c == utf8.RuneError && n == 1 {
			return nil, i, api.ErrUtf8
		}
		i += n
	}
	var all []api.Token
	at := 0
	for _, line := range strings.Split(s, "\n") {
		l, fault, e := modelLine(line, at)
		all = append(all, l...)
		if len(all) > 16384 {
			return nil, all[16384].At, api.ErrLarge
		}
		if e != api.OK {
			return nil, fault, e
		}
		at += len(line) + 1
	}
	return all, 0, api.OK
}

// wantTokens holds what scan answers for s against the model.
func wantTokens(t *testing.T, s string) {
	t.Helper()
	got, at, e := scan.Tokens(s)
	want, wantAt, wantE := modelTokens(s)
	if at != wantAt || e != wantE || !slices.Equal(got, want) {
		t.Errorf("Tokens(%.200q) = %v, %d, %d, not %v, %d, %d", s, some(got), at, e, some(want), wantAt, wantE)
	}
}

// pieces: what texts are made of here.
func pieces() []string {
	all := slices.Concat(theWords, theSigns, theBlanks)
	all = append(all,
		"\n", "\n", "\n", "\n\n", "\r\n", "//", "// ", "// x", "///", "/", " ", " ", " ", ";", ";",
		"x", "y1", "_", "a_b", "\u00c0", "\u00d6\u00d8", "\u00f8", "\u024f", "breaks", "Func", "any", "make", "x", "true",
		"0", "1", "9", "10", "42", "0x", "0xF", "0xaBcD", "18446744073709551615", "0xffffffffffffffff", "0x00", "7", "8",
	)
	return all
}

// faults: what brings a text to nothing, most of the times.
func faults() []string {
	return []string{
		"#", "@", "$", "?", "~", "'", "\"", "`", "\\", "\x00", "\x0b", "\x0c", "\x7f", "\u0085", "\u00a0", "\u00bf", "\u00d7", "\u00f7", "\u0250", "\u0660", "\u2028", "\ufeff", "\ufffd", "\u4e00", "\U0001f600",
		"\x80", "\xff", "\xc3", "\xe2\x82", "\xed\xa0\x80", "\xc0\x80", "\xf4\x90\x80\x80",
		"07", "00", "0X1", "1x", "0x", "0xg", "1_0", "9\u00e9", "18446744073709551616", "0x10000000000000000", strings.Repeat("n", 65), strings.Repeat("\u00e9", 33),
	}
}

func TestTokensOfPairs(t *testing.T) {
	all := slices.Concat(pieces(), faults())
	for _, a := range all {
		for _, b := range all {
			wantTokens(t, a+b)
			wantTokens(t, "x"+a+" "+b+"\n")
			wantTokens(t, a+"\n"+b)
			wantTokens(t, a+"//"+b+"\n"+b)
		}
	}
}

func TestTokensOfSomeTexts(t *testing.T) {
	r := rand.New(rand.NewSource(3))
	good, bad := pieces(), faults()
	for i := range 20000 {
		var b strings.Builder
		for range r.Intn(30) {
			b.WriteString(good[r.Intn(len(good))])
			if r.Intn(2) == 0 {
				b.WriteString(theBlanks[r.Intn(len(theBlanks))])
			}
			if i%2 == 0 && r.Intn(40) == 0 {
				b.WriteString(bad[r.Intn(len(bad))])
			}
		}
		wantTokens(t, b.String())
	}
}

// TestTokensOfSomeBytes: texts of any bytes.
func TestTokensOfSomeBytes(t *testing.T) {
	r := rand.New(rand.NewSource(4))
	for range 20000 {
		b := make([]byte, r.Intn(12))
		for i := range b {
			b[i] = byte(r.Intn(256))
			if r.Intn(3) > 0 {
				b[i] &= 0x7f
			}
		}
		wantTokens(t, string(b))
	}
}

// TestEachCharacter: alone, behind a letter and behind a digit.
func TestEachCharacter(t *testing.T) {
	for c := rune(0); c <= 0x3000; c++ {
		for _, s := range []string{string(c), "a" + string(c), "1" + string(c), "//" + string(c)} {
			wantTokens(t, s)
			if got := scan.Name(s); got != modelName(s) {
				t.Errorf("Name(%q) = %v", s, got)
			}
		}
	}
}
