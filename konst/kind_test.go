package konst_test

import (
	"math"
	"math/big"
	"testing"

	"mullion/api"
	"mullion/konst"
)

// P7.3.

func TestFitsAtTheEnds(t *testing.T) {
	for _, c := range []struct {
		kind int
		c    string
		word uint64
		e    api.Errno
	}{
		{api.TInt8, "-129", 0, api.ErrConst}, {api.TInt8, "-128", 1<<64 - 128, 0}, {api.TInt8, "-1", math.MaxUint64, 0}, {api.TInt8, "0", 0, 0}, {api.TInt8, "127", 127, 0}, {api.TInt8, "128", 0, api.ErrConst}, {api.TInt8, "255", 0, api.ErrConst}, {api.TInt8, "256", 0, api.ErrConst},
		{api.TUint8, "-256", 0, api.ErrConst}, {api.TUint8, "-1", 0, api.ErrConst}, {api.TUint8, "0", 0, 0}, {api.TUint8, "128", 128, 0}, {api.TUint8, "255", 255, 0}, {api.TUint8, "256", 0, api.ErrConst},
		{api.TInt32, "-2147483649", 0, api.ErrConst}, {api.TInt32, "-2147483648", 1<<64 - 1<<31, 0}, {api.TInt32, "-1", math.MaxUint64, 0}, {api.TInt32, "2147483647", 1<<31 - 1, 0}, {api.TInt32, "2147483648", 0, api.ErrConst}, {api.TInt32, "4294967295", 0, api.ErrConst},
		{api.TUint32, "-1", 0, api.ErrConst}, {api.TUint32, "0", 0, 0}, {api.TUint32, "4294967295", 1<<32 - 1, 0}, {api.TUint32, "4294967296", 0, api.ErrConst},
		{api.TInt64, low, 1 << 63, 0}, {api.TInt64, "-1", math.MaxUint64, 0}, {api.TInt64, half, 1<<63 - 1, 0}, {api.TInt64, half1, 0, api.ErrConst}, {api.TInt64, high, 0, api.ErrConst},
		{api.TUint64, "-1", 0, api.ErrConst}, {api.TUint64, low, 0, api.ErrConst}, {api.TUint64, "0", 0, 0}, {api.TUint64, half1, 1 << 63, 0}, {api.TUint64, high, math.MaxUint64, 0},
		// The words of these are numbers of the kind, but others.
		{api.TInt8, high, 0, api.ErrConst}, {api.TInt8, "18446744073709551488", 0, api.ErrConst}, {api.TInt32, high, 0, api.ErrConst}, {api.TInt64, high1, 0, api.ErrConst},
	} {
		k := of(number(c.c))
		if w, e := konst.Fits(c.kind, k.neg, k.n); w != c.word || e != c.e {
			t.Errorf("Fits(%d, %s) = %d, %d, not %d, %d", c.kind, c.c, w, e, c.word, c.e)
		}
	}
}

func TestFitsOneBeyond(t *testing.T) {
	for _, k := range kindRows() {
		for _, end := range []*big.Int{number(k.least), number(k.most)} {
			for d := int64(-2); d <= 2; d++ {
				if b := new(big.Int).Add(end, big.NewInt(d)); isConstant(b) {
					fits(t, k, of(b))
				}
			}
		}
		for _, c := range edges() {
			fits(t, k, c)
		}
	}
}

func TestEachSmallNumber(t *testing.T) {
	for _, k := range kindRows() {
		for i := int64(-600); i <= 600; i++ {
			fits(t, k, of(big.NewInt(i)))
		}
	}
}

// isNumber tells whether w is a number of the kind by what chapter 1 says of its bits.
func isNumber(k kindRow, w uint64) bool {
	for i := k.bits; i < 64; i++ {
		want := uint64(0)
		if number(k.least).Sign() < 0 {
			want = w >> (k.bits - 1) & 1
		}
		if w>>i&1 != want {
			return false
		}
	}
	return true
}

func TestOfWords(t *testing.T) {
	words := []uint64{0, 1, 300, 0x123456789abcdef0, 0xfedcba9876543210, 0x00000000ffffff80, 0xffffffff00000000, 0xff, math.MaxUint64, math.MaxUint64 - 1}
	for _, bit := range []int{7, 8, 31, 32, 63} {
		p := uint64(1) << bit
		words = append(words, p-1, p, p+1, -p-1, -p, -p+1)
	}
	for _, k := range kindRows() {
		for _, w := range words {
			neg, n, e := konst.Of(k.kind, w)
			if !isNumber(k, w) {
				if neg || n != 0 || e != api.ErrForm {
					t.Errorf("Of(%d, %#x) = %v %d, %d, not ErrForm", k.kind, w, neg, n, e)
				}
				continue
			}
			c := constant{neg, n}
			if wordOf(valueOf(c)) != w || !within(valueOf(c), number(k.least), number(k.most)) || neg && n == 0 || e != api.OK {
				t.Errorf("Of(%d, %#x) = %v %d, %d", k.kind, w, neg, n, e)
			}
		}
	}
}

func TestOfAtTheEnds(t *testing.T) {
	for _, c := range []struct {
		kind int
		word uint64
		want string
		e    api.Errno
	}{
		{api.TInt8, 1<<64 - 128, "-128", 0}, {api.TInt8, 1<<64 - 129, "", api.ErrForm}, {api.TInt8, 127, "127", 0}, {api.TInt8, 128, "", api.ErrForm}, {api.TInt8, 255, "", api.ErrForm}, {api.TInt8, math.MaxUint64, "-1", 0}, {api.TInt8, 0, "0", 0},
		{api.TUint8, 0, "0", 0}, {api.TUint8, 255, "255", 0}, {api.TUint8, 256, "", api.ErrForm}, {api.TUint8, math.MaxUint64, "", api.ErrForm},
		{api.TInt32, 1<<64 - 1<<31, "-2147483648", 0}, {api.TInt32, 1<<64 - 1<<31 - 1, "", api.ErrForm}, {api.TInt32, 1 << 31, "", api.ErrForm}, {api.TInt32, 1<<31 - 1, "2147483647", 0}, {api.TInt32, 1<<32 - 1, "", api.ErrForm},
		{api.TUint32, 1<<32 - 1, "4294967295", 0}, {api.TUint32, 1 << 32, "", api.ErrForm}, {api.TUint32, math.MaxUint64, "", api.ErrForm},
		{api.TInt64, 1 << 63, low, 0}, {api.TInt64, 1<<63 - 1, half, 0}, {api.TInt64, math.MaxUint64, "-1", 0}, {api.TInt64, 1<<63 + 1, low1, 0},
		{api.TUint64, 1 << 63, half1, 0}, {api.TUint64, math.MaxUint64, high, 0}, {api.TUint64, 0, "0", 0},
	} {
		want := constant{}
		if c.e == api.OK {
			want = of(number(c.want))
		}
		if neg, n, e := konst.Of(c.kind, c.word); (constant{neg, n}) != want || e != c.e {
			t.Errorf("Of(%d, %#x) = %v %d, %d, not %q, %d", c.kind, c.word, neg, n, e, c.want, c.e)
		}
	}
}

func TestText(t *testing.T) {
	for _, s := range []string{"0", "1", "-1", "9", "10", "-10", "100", "-128", "255", "1000000000000000000", low, low1, half, half1, high1, high} {
		c := of(number(s))
		if got, e := konst.Text(c.neg, c.n); got != s || e != api.OK {
			t.Errorf("Text(%v, %d) = %q, %d, not %q", c.neg, c.n, got, e, s)
		}
	}
	for _, c := range edges() {
		text(t, c)
	}
}
