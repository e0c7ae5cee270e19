package word_test

import (
	"math"
	"math/big"

	"mullion/api"
)

// kindRow is what the chapter says of a kind.
type kindRow struct {
	kind   int
	bits   int
	signed bool
	least  string
	most   string
}

// kindRows: the six kinds.
func kindRows() []kindRow {
	return []kindRow{
		{api.TInt8, 8, true, "-128", "127"},
		{api.TUint8, 8, false, "0", "255"},
		{api.TInt32, 32, true, "-2147483648", "2147483647"},
		{api.TUint32, 32, false, "0", "4294967295"},
		{api.TInt64, 64, true, "-9223372036854775808", "9223372036854775807"},
		{api.TUint64, 64, false, "0", "18446744073709551615"},
	}
}

// noKinds: numbers that are no kind of whole numbers, those beside the six among them.
func noKinds() []int {
	return []int{math.MinInt, -1, 0, api.TBool, api.TStruct, api.TSlice, api.TParam, api.TBox, 14, 256 + api.TInt8, math.MaxInt}
}

// arithOps: the operators of Arith.
func arithOps() []string {
	return []string{"+", "-", "*", "/", "%", "&", "|", "^", "&^"}
}

// w is the word of a number that has a sign.
func w(n int64) uint64 { return uint64(n) }

// number is the decimal number s.
func number(s string) *big.Int {
	b, ok := new(big.Int).SetString(s, 10)
	if !ok {
		panic("no number: " + s)
	}
	return b
}

// pow2 is 2^n.
func pow2(n int) *big.Int { return new(big.Int).Lsh(big.NewInt(1), uint(n)) }

// wordOf is the word of a number of any size: that of the kind with the same lowest bits, carried on to 64.
func (k kindRow) wordOf(b *big.Int) uint64 {
	m := new(big.Int).Mod(b, pow2(k.bits)) // at least 0
	if k.signed && m.Cmp(pow2(k.bits-1)) >= 0 {
		m.Sub(m, pow2(k.bits))
	}
	return m.Mod(m, pow2(64)).Uint64()
}

// valueOf is the number that a word of the kind stands for.
func (k kindRow) valueOf(n uint64) *big.Int {
	b := new(big.Int).SetUint64(n)
	if k.signed && n>>63 == 1 {
		b.Sub(b, pow2(64))
	}
	return b
}

// ends: numbers of the kind at its ends, about 0, and some between.
func (k kindRow) ends() []*big.Int {
	least, most := number(k.least), number(k.most)
	var out []*big.Int
	for _, b := range []*big.Int{
		least, new(big.Int).Add(least, big.NewInt(1)), new(big.Int).Add(least, big.NewInt(2)),
		big.NewInt(-100), big.NewInt(-16), big.NewInt(-7), big.NewInt(-2), big.NewInt(-1),
		big.NewInt(0), big.NewInt(1), big.NewInt(2), big.NewInt(3), big.NewInt(7), big.NewInt(16), big.NewInt(100),
		new(big.Int).Rsh(most, 1), new(big.Int).Add(new(big.Int).Rsh(most, 1), big.NewInt(1)),
		new(big.Int).Sub(most, big.NewInt(1)), most,
	} {
		if b.Cmp(least) >= 0 && b.Cmp(most) <= 0 {
			out = append(out, b)
		}
	}
	return out
}

// all: each number of a kind of 8 bits.
func (k kindRow) all() []*big.Int {
	var out []*big.Int
	for b := number(k.least); b.Cmp(number(k.most)) <= 0; b = new(big.Int).Add(b, big.NewInt(1)) {
		out = append(out, b)
	}
	return out
}

// anyWords: words of all sorts, numbers of some kinds and not of others.
func anyWords() []uint64 {
	out := []uint64{0, 1, 300, 0x123456789abcdef0, 0xfedcba9876543210, 0x00000000ffffff80, 0xffffffff00000000, 0xff}
	for _, bit := range []int{7, 8, 31, 32, 63} {
		p := uint64(1) << bit
		out = append(out, p-1, p, p+1, -p-1, -p, -p+1)
	}
	return append(out, math.MaxUint64-1, math.MaxUint64)
}

// strangers: words that are no numbers of the kind, those nearest to its ends among them.
func (k kindRow) strangers() []uint64 {
	var out []uint64
	for _, n := range anyWords() {
		if k.wordOf(new(big.Int).SetUint64(n)) != n {
			out = append(out, n)
		}
	}
	return out
}

// calc is a op b, exactly; cut towards zero, with the sign of a for %. The words of the others are those of the numbers without end.
func calc(op string, a, b *big.Int) *big.Int {
	z := new(big.Int)
	switch op {
	case "+":
		return z.Add(a, b)
	case "-":
		return z.Sub(a, b)
	case "*":
		return z.Mul(a, b)
	case "/":
		return z.Quo(a, b)
	case "%":
		return z.Rem(a, b)
	case "&":
		return z.And(a, b)
	case "|":
		return z.Or(a, b)
	case "^":
		return z.Xor(a, b)
	case "&^":
		return z.AndNot(a, b)
	}
	panic("no operator: " + op)
}

// shiftOnce is a of the kind, shifted by one bit.
func (k kindRow) shiftOnce(op string, a uint64) uint64 {
	b := k.valueOf(a)
	if op == "<<" {
		return k.wordOf(b.Lsh(b, 1))
	}
	return k.wordOf(b.Rsh(b, 1)) // towards the lesser number: the sign fills it
}
