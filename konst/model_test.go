package konst_test

import (
	"math"
	"math/big"
	"math/rand"
	"testing"

	"mullion/api"
	"mullion/konst"
)

// top is 2^63.
const top = uint64(1) << 63

// constant is a sign and a size, as the calls take them.
type constant struct {
	neg bool
	n   uint64
}

// foldOps: the operators of Fold.
func foldOps() []string {
	return []string{"+", "-", "*", "/", "%", "<<", ">>", "&", "|", "^", "&^"}
}

// compareOps: the operators of Compare.
func compareOps() []string { return []string{"==", "!=", "<", "<=", ">", ">="} }

// noOps: texts that are no operator of any call.
func noOps() []string {
	return []string{"", "!", "=", ":=", "<-", "&&", "||", "++", "--", "===", "<<<", ">>>", "&^^", "+=", "<<=", " +", "+ ", "+\x00", "**", "//", "~", "(", "x", "add", "\xff", "−", "＋"}
}

// kindRow is what chapter 1 says of a kind.
type kindRow struct {
	kind, bits  int
	least, most string
}

// kindRows: the six kinds.
func kindRows() []kindRow {
	return []kindRow{
		{api.TInt8, 8, "-128", "127"},
		{api.TUint8, 8, "0", "255"},
		{api.TInt32, 32, "-2147483648", "2147483647"},
		{api.TUint32, 32, "0", "4294967295"},
		{api.TInt64, 64, "-9223372036854775808", "9223372036854775807"},
		{api.TUint64, 64, "0", "18446744073709551615"},
	}
}

// noKinds: numbers that are no kind of whole numbers, those beside the six among them.
func noKinds() []int {
	return []int{math.MinInt, -api.TInt8, -1, 0, api.TBool, api.TStruct, api.TSlice, api.TChan, api.TFunc, api.TParam, api.TBox, 14, 256 + api.TInt8, 1<<32 + api.TUint64, math.MaxInt}
}

// unsound: constants that are not sound: 0 below 0, and what is below -2^63.
func unsound() []constant {
	return []constant{{true, 0}, {true, top + 1}, {true, top + 2}, {true, top + top/2}, {true, math.MaxUint64 - 1}, {true, math.MaxUint64}}
}

// number is the decimal number s.
func number(s string) *big.Int {
	b, ok := new(big.Int).SetString(s, 10)
	if !ok {
		panic("no number: " + s)
	}
	return b
}

// pow2 is 2^n.
func pow2(n int) *big.Int { return new(big.Int).Exp(big.NewInt(2), big.NewInt(int64(n)), nil) }

// least and most: the ends of the constants.
func least() *big.Int { return new(big.Int).Neg(pow2(63)) }
func most() *big.Int  { return new(big.Int).Sub(pow2(64), big.NewInt(1)) }

// within tells whether b is from lo to hi.
func within(b, lo, hi *big.Int) bool { return b.Cmp(lo) >= 0 && b.Cmp(hi) <= 0 }

// isConstant tells whether b is a number that constants reach.
func isConstant(b *big.Int) bool { return b != nil && within(b, least(), most()) }

// of is b, which constants reach, as a sign and a size.
func of(b *big.Int) constant {
	return constant{b.Sign() < 0, new(big.Int).Abs(b).Uint64()}
}

// valueOf is the number that c is.
func valueOf(c constant) *big.Int {
	b := new(big.Int).SetUint64(c.n)
	if c.neg {
		b.Neg(b)
	}
	return b
}

// edges: the constants about the ends, about 0 and about the sizes of words.
func edges() []constant {
	var out []constant
	for _, s := range []string{
		"-9223372036854775808", "-9223372036854775807", "-9223372036854775806", "-4611686018427387904", "-4294967297", "-4294967296", "-4294967295", "-3037000500", "-3037000499",
		"-65", "-64", "-63", "-8", "-7", "-5", "-3", "-2", "-1", "0", "1", "2", "3", "5", "7", "8", "62", "63", "64", "65", "127", "128",
		"3037000499", "3037000500", "4294967295", "4294967296", "4294967297", "4611686018427387903", "4611686018427387904", "6148914691236517205",
		"9223372036854775806", "9223372036854775807", "9223372036854775808", "9223372036854775809", "12297829382473034410", "18446744073709551614", "18446744073709551615",
	} {
		out = append(out, of(number(s)))
	}
	return out
}

// chance is a sound constant, with a size of any number of bits.
func chance(r *rand.Rand) constant {
	n := r.Uint64() >> r.Intn(64)
	if r.Intn(4) == 0 {
		n = top + uint64(r.Intn(5)) - 2
	}
	return constant{n != 0 && n <= top && r.Intn(2) == 0, n}
}

// calc is a op b, exactly, and what else the chapter says of it; nil: no number that constants reach.
func calc(op string, a, b *big.Int) (*big.Int, api.Errno) {
	z := new(big.Int)
	switch op {
	case "+":
		return z.Add(a, b), api.OK
	case "-":
		return z.Sub(a, b), api.OK
	case "*":
		return z.Mul(a, b), api.OK
	case "/", "%":
		if b.Sign() == 0 {
			return nil, api.ErrZero
		}
		if op == "/" {
			return z.Quo(a, b), api.OK
		}
		return z.Rem(a, b), api.OK
	case "<<", ">>":
		return calcShift(op, a, b)
	}
	if a.Sign() < 0 || b.Sign() < 0 {
		return nil, api.ErrConst
	}
	return calcBits(op, a, b), api.OK
}

// calcShift is a times or divided by 2^b; from 2^200 on nothing changes any more, but for what is too large either way.
func calcShift(op string, a, b *big.Int) (*big.Int, api.Errno) {
	if b.Sign() < 0 {
		return nil, api.ErrShift
	}
	p := pow2(200)
	if b.Cmp(big.NewInt(200)) < 0 {
		p = pow2(int(b.Int64()))
	}
	if op == "<<" {
		return new(big.Int).Mul(a, p), api.OK
	}
	return new(big.Int).Div(a, p), api.OK // leaves no less than 0: towards the lesser number
}

// calcBits is a op b, both at least 0, bit by bit.
func calcBits(op string, a, b *big.Int) *big.Int {
	z := new(big.Int)
	for i := 0; i < 64; i++ {
		x, y := a.Bit(i) == 1, b.Bit(i) == 1
		if op == "&" && x && y || op == "|" && (x || y) || op == "^" && x != y || op == "&^" && x && !y {
			z.SetBit(z, i, 1)
		}
	}
	return z
}

// calcUnary is op a, exactly.
func calcUnary(op string, a *big.Int) *big.Int {
	if op == "-" {
		return new(big.Int).Neg(a)
	}
	return new(big.Int).Sub(new(big.Int).Neg(a), big.NewInt(1))
}

// calcCompare tells whether a op b.
func calcCompare(op string, a, b *big.Int) bool {
	c := a.Cmp(b)
	return op == "==" && c == 0 || op == "!=" && c != 0 || op == "<" && c < 0 || op == "<=" && c <= 0 || op == ">" && c > 0 || op == ">=" && c >= 0
}

// wordOf is the word of b, which the kind has.
func wordOf(b *big.Int) uint64 { return new(big.Int).Mod(b, pow2(64)).Uint64() }

// told is what a call should answer that works out b or finds e.
func told(b *big.Int, e api.Errno) (constant, api.Errno) {
	if e == api.OK && !isConstant(b) {
		e = api.ErrConst
	}
	if e != api.OK {
		return constant{}, e
	}
	return of(b), api.OK
}

// fold, unary, compare and fits hold a call against its model.
func fold(t *testing.T, op string, a, b constant) {
	t.Helper()
	want, we := told(calc(op, valueOf(a), valueOf(b)))
	if neg, n, e := konst.Fold(op, a.neg, a.n, b.neg, b.n); (constant{neg, n}) != want || e != we {
		t.Errorf("%v %s %v = %v %d, %d, not %v, %d", valueOf(a), op, valueOf(b), neg, n, e, want, we)
	}
}

func unary(t *testing.T, op string, a constant) {
	t.Helper()
	want, we := told(calcUnary(op, valueOf(a)), api.OK)
	if neg, n, e := konst.Unary(op, a.neg, a.n); (constant{neg, n}) != want || e != we {
		t.Errorf("%s %v = %v %d, %d, not %v, %d", op, valueOf(a), neg, n, e, want, we)
	}
}

func compare(t *testing.T, op string, a, b constant) {
	t.Helper()
	want := calcCompare(op, valueOf(a), valueOf(b))
	if got, e := konst.Compare(op, a.neg, a.n, b.neg, b.n); got != want || e != api.OK {
		t.Errorf("%v %s %v = %v, %d", valueOf(a), op, valueOf(b), got, e)
	}
}

func fits(t *testing.T, k kindRow, c constant) {
	t.Helper()
	b := valueOf(c)
	if !within(b, number(k.least), number(k.most)) {
		if w, e := konst.Fits(k.kind, c.neg, c.n); w != 0 || e != api.ErrConst {
			t.Errorf("Fits(%d, %v) = %d, %d, not ErrConst", k.kind, b, w, e)
		}
		return
	}
	if w, e := konst.Fits(k.kind, c.neg, c.n); w != wordOf(b) || e != api.OK {
		t.Errorf("Fits(%d, %v) = %d, %d, not %d", k.kind, b, w, e, wordOf(b))
	}
	if neg, n, e := konst.Of(k.kind, wordOf(b)); (constant{neg, n}) != c || e != api.OK {
		t.Errorf("Of(%d, %d) = %v %d, %d, not %v", k.kind, wordOf(b), neg, n, e, b)
	}
}

// text holds the digits of c against the model.
func text(t *testing.T, c constant) {
	t.Helper()
	if s, e := konst.Text(c.neg, c.n); s != valueOf(c).String() || e != api.OK {
		t.Errorf("Text(%v, %d) = %q, %d", c.neg, c.n, s, e)
	}
}
