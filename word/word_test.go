package word_test

import (
	"math"
	"math/big"
	"strings"
	"testing"

	"mullion/api"
	"mullion/word"
)

// P1.1.

func TestBitsAndSigned(t *testing.T) {
	for _, k := range kindRows() {
		if n, e := word.Bits(k.kind); n != k.bits || e != api.OK {
			t.Errorf("Bits(%d) = %d, %d", k.kind, n, e)
		}
		if b, e := word.Signed(k.kind); b != k.signed || e != api.OK {
			t.Errorf("Signed(%d) = %v, %d", k.kind, b, e)
		}
	}
}

func TestNoKind(t *testing.T) {
	for _, kind := range noKinds() {
		if n, e := word.Bits(kind); n != 0 || e != api.ErrArg {
			t.Errorf("Bits(%d) = %d, %d", kind, n, e)
		}
		if b, e := word.Signed(kind); b || e != api.ErrArg {
			t.Errorf("Signed(%d) = %v, %d", kind, b, e)
		}
		for _, n := range anyWords() {
			noKindOfWord(t, kind, n)
		}
	}
}

// noKindOfWord: what takes words answers ErrArg too for no kind, whatever else is wrong.
func noKindOfWord(t *testing.T, kind int, n uint64) {
	t.Helper()
	if word.Is(kind, n) {
		t.Errorf("Is(%d, %d)", kind, n)
	}
	wantWord(t, 0, api.ErrArg)(word.Wrap(kind, n))
	for _, k := range kindRows() {
		wantWord(t, 0, api.ErrArg)(word.Convert(kind, k.kind, n))
		wantWord(t, 0, api.ErrArg)(word.Convert(k.kind, kind, n))
		for _, op := range []string{"<<", ">>", "+"} {
			wantWord(t, 0, api.ErrArg)(word.Shift(kind, op, n, k.kind, n))
			wantWord(t, 0, api.ErrArg)(word.Shift(k.kind, op, n, kind, n))
		}
	}
	for _, op := range append(arithOps(), "", "<<") {
		wantWord(t, 0, api.ErrArg)(word.Arith(kind, op, n, 0))
		wantWord(t, 0, api.ErrArg)(word.Arith(kind, op, 0, n))
	}
	if b, e := word.Less(kind, 0, n); b || e != api.ErrArg {
		t.Errorf("Less(%d, 0, %d) = %v, %d", kind, n, b, e)
	}
	if s, e := word.Text(kind, n); s != "" || e != api.ErrArg {
		t.Errorf("Text(%d, %d) = %s, %d", kind, n, s, e)
	}
}

// wantWord: what a call that answers a word has to answer.
func wantWord(t *testing.T, want uint64, we api.Errno) func(uint64, api.Errno) {
	t.Helper()
	return func(v uint64, e api.Errno) {
		t.Helper()
		if v != want || e != we {
			t.Errorf("%d (%d), error %d; want %d (%d), error %d", v, int64(v), e, want, int64(want), we)
		}
	}
}

func TestIsAtTheEnds(t *testing.T) {
	for _, c := range []struct {
		kind int
		n    uint64
		want bool
	}{
		{api.TInt8, w(-128), true}, {api.TInt8, w(-129), false}, {api.TInt8, 127, true}, {api.TInt8, 128, false}, {api.TInt8, 255, false}, {api.TInt8, math.MaxUint64, true},
		{api.TUint8, 0, true}, {api.TUint8, 255, true}, {api.TUint8, 256, false}, {api.TUint8, w(-1), false},
		{api.TInt32, w(-1 << 31), true}, {api.TInt32, w(-1<<31 - 1), false}, {api.TInt32, 1<<31 - 1, true}, {api.TInt32, 1 << 31, false}, {api.TInt32, 1<<32 - 1, false},
		{api.TUint32, 1<<32 - 1, true}, {api.TUint32, 1 << 32, false}, {api.TUint32, w(-1), false}, {api.TUint32, w(-1 << 31), false},
		{api.TInt64, 1 << 63, true}, {api.TInt64, 1<<63 - 1, true}, {api.TInt64, math.MaxUint64, true},
		{api.TUint64, 1 << 63, true}, {api.TUint64, math.MaxUint64, true}, {api.TUint64, 0, true},
	} {
		if got := word.Is(c.kind, c.n); got != c.want {
			t.Errorf("Is(%d, %d) = %v", c.kind, int64(c.n), got)
		}
	}
}

func TestIsAndWrap(t *testing.T) {
	for _, k := range kindRows() {
		for _, n := range anyWords() {
			want := k.wordOf(new(big.Int).SetUint64(n))
			wantWord(t, want, api.OK)(word.Wrap(k.kind, n))
			if got := word.Is(k.kind, n); got != (want == n) {
				t.Errorf("Is(%d, %d) = %v", k.kind, n, got)
			}
			if !word.Is(k.kind, want) {
				t.Errorf("Is(%d, %d) is false of what Wrap answers", k.kind, want)
			}
		}
	}
}

func TestConvert(t *testing.T) {
	wantWord(t, 44, api.OK)(word.Convert(api.TInt64, api.TInt8, 300))
	wantWord(t, 4294967295, api.OK)(word.Convert(api.TInt8, api.TUint32, w(-1)))
	wantWord(t, math.MaxUint64, api.OK)(word.Convert(api.TInt8, api.TUint64, w(-1)))
	wantWord(t, w(-1), api.OK)(word.Convert(api.TUint8, api.TInt8, 255))
	wantWord(t, w(-1), api.OK)(word.Convert(api.TUint64, api.TInt64, math.MaxUint64))
	wantWord(t, 255, api.OK)(word.Convert(api.TUint8, api.TInt64, 255))
	for _, from := range kindRows() {
		for _, to := range kindRows() {
			for _, b := range from.ends() {
				wantWord(t, to.wordOf(b), api.OK)(word.Convert(from.kind, to.kind, from.wordOf(b)))
			}
			for _, n := range from.strangers() {
				wantWord(t, 0, api.ErrForm)(word.Convert(from.kind, to.kind, n))
			}
		}
	}
}

// P1.2.

func TestArithExamples(t *testing.T) {
	for _, c := range []struct {
		kind int
		op   string
		a, b int64
		want int64
	}{
		{api.TInt8, "+", 127, 1, -128}, {api.TUint8, "*", 16, 16, 0}, {api.TInt8, "/", -128, -1, -128}, {api.TInt8, "%", -128, -1, 0},
		{api.TInt32, "/", math.MinInt32, -1, math.MinInt32}, {api.TInt32, "%", math.MinInt32, -1, 0},
		{api.TInt64, "/", math.MinInt64, -1, math.MinInt64}, {api.TInt64, "%", math.MinInt64, -1, 0},
		{api.TInt8, "/", -7, 2, -3}, {api.TInt8, "/", 7, -2, -3}, {api.TInt8, "%", -7, 2, -1}, {api.TInt8, "%", 7, -2, 1},
		{api.TUint8, "-", 0, 1, 255}, {api.TUint32, "-", 0, 1, math.MaxUint32}, {api.TUint64, "-", 0, 1, -1}, {api.TInt8, "-", -128, 1, 127},
		{api.TInt64, "+", math.MaxInt64, 1, math.MinInt64}, {api.TUint64, "/", -1, 2, math.MaxInt64}, {api.TUint64, "%", -1, 10, 5},
		{api.TInt64, "*", 1 << 62, 4, 0}, {api.TInt8, "&^", -1, 1, -2}, {api.TUint8, "&^", 255, 15, 240}, {api.TInt8, "^", -1, 1, -2}, {api.TInt8, "|", -128, 1, -127}, {api.TInt8, "&", -1, 100, 100},
	} {
		wantWord(t, w(c.want), api.OK)(word.Arith(c.kind, c.op, w(c.a), w(c.b)))
	}
}

func TestArith(t *testing.T) {
	for _, k := range kindRows() {
		numbers := k.ends()
		if k.bits == 8 {
			numbers = k.all()
		}
		for _, op := range arithOps() {
			for _, a := range numbers {
				arithWith(t, k, op, a, numbers)
			}
		}
	}
}

// arithWith holds a op b against the model for each b.
func arithWith(t *testing.T, k kindRow, op string, a *big.Int, bs []*big.Int) {
	t.Helper()
	for _, b := range bs {
		want, we := uint64(0), api.ErrZero
		if b.Sign() != 0 || op != "/" && op != "%" {
			want, we = k.wordOf(calc(op, a, b)), api.OK
		}
		v, e := word.Arith(k.kind, op, k.wordOf(a), k.wordOf(b))
		if v != want || e != we {
			t.Errorf("Arith(%d, %s, %s, %s) = %d, %d; want %d, %d", k.kind, op, a, b, int64(v), e, int64(want), we)
		}
	}
}

func TestArithWrongOperator(t *testing.T) {
	for _, op := range []string{"", " ", "+ ", " +", "++", "<<", ">>", "==", "&&", "^&", "&^ ", "&^=", "//", "÷", "\x00", "\xff", strings.Repeat("+", 1000)} {
		for _, k := range kindRows() {
			wantWord(t, 0, api.ErrArg)(word.Arith(k.kind, op, 1, 1))
			wantWord(t, 0, api.ErrArg)(word.Arith(k.kind, op, 1, 0))
			for _, n := range k.strangers() { // ahead of ErrForm
				wantWord(t, 0, api.ErrArg)(word.Arith(k.kind, op, n, 1))
				wantWord(t, 0, api.ErrArg)(word.Arith(k.kind, op, 1, n))
			}
		}
	}
}

func TestArithWrongWord(t *testing.T) {
	for _, k := range kindRows() {
		for _, op := range arithOps() {
			for _, n := range k.strangers() {
				wantWord(t, 0, api.ErrForm)(word.Arith(k.kind, op, n, 1))
				wantWord(t, 0, api.ErrForm)(word.Arith(k.kind, op, 1, n))
				wantWord(t, 0, api.ErrForm)(word.Arith(k.kind, op, n, n))
				wantWord(t, 0, api.ErrForm)(word.Arith(k.kind, op, n, 0)) // ahead of ErrZero
			}
		}
	}
}

func TestArithZero(t *testing.T) {
	for _, k := range kindRows() {
		for _, b := range k.ends() {
			a := k.wordOf(b)
			wantWord(t, 0, api.ErrZero)(word.Arith(k.kind, "/", a, 0))
			wantWord(t, 0, api.ErrZero)(word.Arith(k.kind, "%", a, 0))
			wantWord(t, a, api.OK)(word.Arith(k.kind, "+", a, 0))
			wantWord(t, 0, api.OK)(word.Arith(k.kind, "*", a, 0))
			wantWord(t, a, api.OK)(word.Arith(k.kind, "&^", a, 0))
		}
	}
}

// P1.3.

func TestShiftExamples(t *testing.T) {
	wantWord(t, w(-1), api.OK)(word.Shift(api.TInt8, ">>", w(-128), api.TUint8, 200))
	wantWord(t, 128, api.OK)(word.Shift(api.TUint8, "<<", 3, api.TInt64, 7))
	wantWord(t, 0, api.ErrShift)(word.Shift(api.TInt64, "<<", 1, api.TInt8, w(-1)))
	wantWord(t, w(-128), api.OK)(word.Shift(api.TInt8, "<<", 1, api.TInt8, 7))
	wantWord(t, 0, api.OK)(word.Shift(api.TInt8, "<<", 1, api.TInt8, 8))
	wantWord(t, w(math.MinInt64), api.OK)(word.Shift(api.TInt64, "<<", 1, api.TInt8, 63))
	wantWord(t, 0, api.OK)(word.Shift(api.TInt64, "<<", 1, api.TInt8, 64))
	wantWord(t, 1, api.OK)(word.Shift(api.TUint64, ">>", 1<<63, api.TUint64, 63))
	wantWord(t, 0, api.OK)(word.Shift(api.TUint64, ">>", 1<<63, api.TUint64, 64))
	wantWord(t, w(-1), api.OK)(word.Shift(api.TInt64, ">>", 1<<63, api.TUint64, 64))
	wantWord(t, 0, api.OK)(word.Shift(api.TUint8, ">>", 255, api.TUint64, math.MaxUint64)) // a count without a sign, however great, is not below 0
}

func TestShift(t *testing.T) {
	for _, k := range kindRows() {
		numbers := k.ends()
		if k.bits == 8 {
			numbers = k.all()
		}
		for _, by := range kindRows() {
			for _, op := range []string{"<<", ">>"} {
				for _, b := range numbers {
					shiftByAll(t, k, op, k.wordOf(b), by)
				}
			}
		}
	}
}

// shiftByAll shifts a by each number of bits to 70 and by great ones; by more bits than the kind has, what stands then stays.
func shiftByAll(t *testing.T, k kindRow, op string, a uint64, by kindRow) {
	t.Helper()
	want := a
	for n := range uint64(71) {
		wantWord(t, want, api.OK)(word.Shift(k.kind, op, a, by.kind, n))
		want = k.shiftOnce(op, want)
	}
	for _, b := range by.ends() {
		if n := by.wordOf(b); b.Sign() < 0 {
			wantWord(t, 0, api.ErrShift)(word.Shift(k.kind, op, a, by.kind, n))
		} else if n > 70 {
			wantWord(t, want, api.OK)(word.Shift(k.kind, op, a, by.kind, n))
		}
	}
}

func TestShiftWrongOperator(t *testing.T) {
	for _, op := range []string{"", "<", ">", "<<<", ">>>", "<< ", " >>", "<>", "><", "+", "&^", "\xff"} {
		for _, k := range kindRows() {
			wantWord(t, 0, api.ErrArg)(word.Shift(k.kind, op, 1, api.TInt8, 1))
			wantWord(t, 0, api.ErrArg)(word.Shift(k.kind, op, 1, api.TInt8, w(-1)))
			for _, n := range k.strangers() { // ahead of ErrForm
				wantWord(t, 0, api.ErrArg)(word.Shift(k.kind, op, n, api.TInt8, 1))
			}
		}
	}
}

func TestShiftWrongWord(t *testing.T) {
	for _, op := range []string{"<<", ">>"} {
		for _, k := range kindRows() {
			for _, by := range kindRows() {
				for _, n := range k.strangers() {
					wantWord(t, 0, api.ErrForm)(word.Shift(k.kind, op, n, by.kind, 1))
				}
				for _, n := range by.strangers() {
					wantWord(t, 0, api.ErrForm)(word.Shift(k.kind, op, 1, by.kind, n))
				}
				for _, n := range k.strangers() { // ahead of ErrShift
					if by.signed {
						wantWord(t, 0, api.ErrForm)(word.Shift(k.kind, op, n, by.kind, w(-1)))
					}
				}
			}
		}
	}
}

// P1.4.

func TestLess(t *testing.T) {
	for _, k := range kindRows() {
		for _, a := range k.ends() {
			for _, b := range k.ends() {
				if got, e := word.Less(k.kind, k.wordOf(a), k.wordOf(b)); got != (a.Cmp(b) < 0) || e != api.OK {
					t.Errorf("Less(%d, %s, %s) = %v, %d", k.kind, a, b, got, e)
				}
			}
		}
		for _, n := range k.strangers() {
			for _, c := range [][2]uint64{{n, 1}, {1, n}, {n, n}} {
				if b, e := word.Less(k.kind, c[0], c[1]); b || e != api.ErrForm {
					t.Errorf("Less(%d, %d, %d) = %v, %d", k.kind, c[0], c[1], b, e)
				}
			}
		}
	}
}

func TestText(t *testing.T) {
	if s, e := word.Text(api.TUint64, math.MaxUint64); s != "18446744073709551615" || e != api.OK {
		t.Errorf("Text of 2^64 - 1: %s, %d", s, e)
	}
	for _, k := range kindRows() {
		for _, s := range []string{k.least, "0", k.most} {
			if got, e := word.Text(k.kind, k.wordOf(number(s))); got != s || e != api.OK {
				t.Errorf("Text of %s of %d: %s, %d", s, k.kind, got, e)
			}
		}
		for _, b := range k.ends() {
			if got, e := word.Text(k.kind, k.wordOf(b)); got != b.String() || e != api.OK {
				t.Errorf("Text of %s of %d: %s, %d", b, k.kind, got, e)
			}
		}
		for _, n := range k.strangers() {
			if s, e := word.Text(k.kind, n); s != "" || e != api.ErrForm {
				t.Errorf("Text(%d, %d) = %s, %d", k.kind, n, s, e)
			}
		}
	}
}
