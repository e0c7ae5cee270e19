package parse_test

import (
	"math/rand"
	"strings"
	"testing"

	"mullion/api"
	"mullion/scan"
	"mullion/tree"
)

// TestTreesByChance: what is written together with its tree is read as that.
func TestTreesByChance(t *testing.T) {
	w := newWriter(rand.New(rand.NewSource(5)))
	parts := map[string]func(d int) api.Node{
		"ProgramText": func(int) api.Node { return w.program() },
		"StmtText":    w.statement,
		"ExprText":    func(d int) api.Node { return w.expr(1, d) },
		"TypeText":    w.typed,
	}
	kinds := map[int]int{}
	for _, e := range entries {
		for i := range 2500 {
			*w = writer{r: w.r}
			want := parts[e.start](i % 5)
			if w.chance(3) && e.start != "ProgramText" {
				w.semicolon()
			}
			wantTree(t, e, w.text, want)
			for _, n := range tree.Walk(want) {
				kinds[n.Kind]++
			}
		}
	}
	for _, kind := range []int{1, 2, 3, 4, 5, 6, 7, 8, 10, 11, 12, 13, 20, 21, 22, 23, 24, 25, 26, 27, 28, 29, 30, 31, 32, 33, 34, 35, 36, 37, 38, 39, 40, 41, 42, 43, 44, 45} {
		if kinds[kind] < 100 {
			t.Errorf("there are only %d nodes %d in all texts", kinds[kind], kind)
		}
	}
}

// wantVerdict asks for what the chart tells, and answers whether that is no fault.
func wantVerdict(t *testing.T, e entry, c *chart, text string) bool {
	t.Helper()
	tokens, at, err := scan.Tokens(text)
	if err != api.OK {
		wantFault(t, e, text, at, err)
		return false
	}
	if at := c.verdict(e.start, tokens, len(text)); at >= 0 {
		wantFault(t, e, text, at, api.ErrText)
		return false
	}
	if n, at, err := e.read(text); err != api.OK || at != 0 || e.sound(n) != api.OK {
		t.Errorf("%s of %s = %d, %d", e.start, short(text), at, err)
	}
	return true
}

// vocabulary: a token of each sort, and each word and sign.
var vocabulary = strings.Fields("x make any 7 func type struct if else for break continue return go defer select case default chan var true false + - * / % & | ^ << >> &^ && || ! == != < <= > >= = := ( ) [ ] { } , . : <- ;")

// samples: by the calls, texts with all rules of the grammar in them.
func samples() map[string][]string {
	return map[string][]string{
		"ProgramText": {
			"type P struct { x int ; y [ ] P } ; func f ( ) { }",
			"type P struct { } ; type Q struct { p func ( P , chan T ) bool ; } ;",
			"func f [ T any , U comparable , V integer ] ( x T , y U ) V { return x }",
			"func f [ make any ; ] ( any any ; ) { } ; func g ( ) [ ] T { }",
			"func main ( ) { x := 1 ; if x { f ( ) } }",
		},
		"StmtText": {
			"{ { } ; break ; continue }", "var x chan T", "if x { } else if y { } else { f ( ) }", "for x < 1 { return } ;", "return x",
			"go f ( x )", "defer func ( ) { } ( )", "x := y", "x . y = z", "x [ 0 ] = f ( )", "f ( ) ;", "<- c", "c <- x", "( ( f ( ) ) )", "x := 5 ;",
			"select { case x := <- c : f ( ) ; case <- c : }", "select { case <- c : f ( ) ; case c <- x : g ( ) ; <- d ; default : }",
			"select { default : f ( ) ; case ( <- c ) : case <- c <- d : }", "select { }", "if ( P { 1 } ) { }", "if f ( P { } ) [ P { } ] { }",
			"if func ( ) { x := P { } } { }", "for x { } ;", "make = y", "if make { }",
		},
		"ExprText": {
			"a + b * c", "( a ; )", "f ( a , b ; )", "f ( )", "x . y [ 0 , [ ] T , chan U , a ; ] ( )", "- ^ ! <- x", "P { }", "P { a , b ; }", "P { a } . x",
			"make ( T , n ; )", "make ( chan int , 0 )", "func ( x T , y [ ] U ; ) chan V { f ( ) }", "func ( ) { }", "true == false", "make . make", "make { }", "( make ) ( x )", "- f ( x ) . y - 7",
		},
		"TypeText": {"T", "[ ] T", "chan [ ] chan T", "func ( ) ", "func ( A , B ; ) C ;", "func ( func ( ) ) func ( ) [ ] T"},
	}
}

// joined writes tokens as a text; of the semicolons behind the first some are lines' ends.
func joined(tokens []string) string {
	text := ""
	for i, s := range tokens {
		if s == ";" && i%3 == 1 {
			s = "\n"
		}
		text += s + " "
	}
	return text
}

// TestEachPlace: each sample, and it with a token missing, a token too many, and another token at each place of it.
func TestEachPlace(t *testing.T) {
	g := readRules()
	for _, e := range entries {
		c := newChart(g, e.start)
		for _, sample := range samples()[e.start] {
			w := strings.Fields(sample)
			if !wantVerdict(t, e, c, sample) || !wantVerdict(t, e, c, strings.Join(w, " \t")) {
				t.Errorf("%s of %q can't be read", e.start, sample)
			}
			for i := range len(w) + 1 {
				wantVerdict(t, e, c, joined(w[:i]))
				for _, s := range vocabulary {
					wantVerdict(t, e, c, joined(w[:i])+s+" "+joined(w[i:]))
				}
				if i == len(w) {
					continue
				}
				wantVerdict(t, e, c, joined(w[:i])+joined(w[i+1:]))
				for _, s := range vocabulary {
					wantVerdict(t, e, c, joined(w[:i])+s+" "+joined(w[i+1:]))
				}
			}
		}
	}
}

// TestTokensByChance: tokens of which most can go on, and the texts that end behind each of them.
func TestTokensByChance(t *testing.T) {
	g := readRules()
	r := rand.New(rand.NewSource(7))
	for _, e := range entries {
		whole := 0
		c := newChart(g, e.start)
		for range 1500 {
			walk := newChart(g, e.start)
			var w []string
			for most := r.Intn(40); len(w) < most; {
				can := walk.wanted()
				next := vocabulary[r.Intn(len(vocabulary))]
				if len(can) > 0 && r.Intn(30) > 0 {
					next = can[r.Intn(len(can))]
				}
				w = append(w, next)
				if wantVerdict(t, e, c, joined(w)) {
					whole++
				}
				if tokens, _, _ := scan.Tokens(next); !walk.push(tokens[0]) {
					break
				}
			}
		}
		if whole < 300 {
			t.Errorf("%s: only %d texts can be read", e.start, whole)
		}
	}
}

// TestCutTexts: texts by chance that are cut anywhere, or have a piece elsewhere in them.
func TestCutTexts(t *testing.T) {
	g := readRules()
	w := newWriter(rand.New(rand.NewSource(8)))
	for _, e := range entries {
		for range 60 {
			*w = writer{r: w.r}
			w.program()
			if e.start != "ProgramText" {
				*w = writer{r: w.r}
				w.statement(2)
			}
			if len(w.text) > 300 || len(w.text) == 0 {
				continue
			}
			c := newChart(g, e.start)
			for range 12 {
				i, j := w.r.Intn(len(w.text)), w.r.Intn(len(w.text))
				wantVerdict(t, e, c, w.text[:i])
				wantVerdict(t, e, c, w.text[:i]+w.text[j:])
			}
		}
	}
}
