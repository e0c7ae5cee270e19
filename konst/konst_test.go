package konst_test

import (
	"testing"

	"mullion/api"
	"mullion/konst"
)

// row is a op b with what comes of it, in decimal; want is empty beside an error.
type row struct {
	a, op, b string
	want     string
	e        api.Errno
}

// rows holds what Fold answers against what is written.
func rows(t *testing.T, list []row) {
	t.Helper()
	for _, r := range list {
		a, b := of(number(r.a)), of(number(r.b))
		want := constant{}
		if r.e == api.OK {
			want = of(number(r.want))
		}
		if neg, n, e := konst.Fold(r.op, a.neg, a.n, b.neg, b.n); (constant{neg, n}) != want || e != r.e {
			t.Errorf("%s %s %s = %v %d, %d, not %q, %d", r.a, r.op, r.b, neg, n, e, r.want, r.e)
		}
	}
}

// The ends: -2^63, -2^63 + 1, 2^63 - 1, 2^63, 2^63 + 1, 2^64 - 2, 2^64 - 1.
const (
	low   = "-9223372036854775808"
	low1  = "-9223372036854775807"
	half  = "9223372036854775807"
	half1 = "9223372036854775808"
	half2 = "9223372036854775809"
	high1 = "18446744073709551614"
	high  = "18446744073709551615"
)

// P7.1.

func TestExamples(t *testing.T) {
	rows(t, []row{
		{"1", "<<", "63", half1, 0},
		{"1", "<<", "64", "", api.ErrConst},
		{"0", "<<", "1000", "0", 0},
		{"-5", ">>", "1", "-3", 0},
		{"-7", "/", "2", "-3", 0},
	})
	if neg, n, e := konst.Unary("-", false, top); !neg || n != top || e != api.OK {
		t.Errorf("- 2^63 = %v %d, %d", neg, n, e)
	}
	if neg, n, e := konst.Unary("-", false, top+1); neg || n != 0 || e != api.ErrConst {
		t.Errorf("- (2^63 + 1) = %v %d, %d", neg, n, e)
	}
	if w, e := konst.Fits(api.TInt8, false, 128); w != 0 || e != api.ErrConst {
		t.Errorf("Fits(TInt8, 128) = %d, %d", w, e)
	}
	if w, e := konst.Fits(api.TUint8, true, 1); w != 0 || e != api.ErrConst {
		t.Errorf("Fits(TUint8, -1) = %d, %d", w, e)
	}
}

func TestSumsAtTheEnds(t *testing.T) {
	rows(t, []row{
		{high1, "+", "1", high, 0}, {high, "+", "0", high, 0}, {high, "+", "1", "", api.ErrConst}, {high, "+", high, "", api.ErrConst},
		{half1, "+", half, high, 0}, {half1, "+", half1, "", api.ErrConst},
		{low1, "+", "-1", low, 0}, {low, "+", "0", low, 0}, {low, "+", "-1", "", api.ErrConst}, {low, "+", low, "", api.ErrConst},
		{low, "+", high, half, 0}, {high, "+", low, half, 0}, {low, "+", half1, "0", 0}, {half, "+", low, "-1", 0}, {"-1", "+", "1", "0", 0}, {"1", "+", "-1", "0", 0}, {"1", "+", "-3", "-2", 0},
		{high, "-", "-1", "", api.ErrConst}, {high1, "-", "-1", high, 0}, {half, "-", low, high, 0}, {half1, "-", low, "", api.ErrConst},
		{low, "-", "1", "", api.ErrConst}, {low1, "-", "1", low, 0}, {low, "-", low, "0", 0}, {high, "-", high, "0", 0}, {low, "-", high, "", api.ErrConst},
		{"0", "-", half1, low, 0}, {"0", "-", half2, "", api.ErrConst}, {"0", "-", high, "", api.ErrConst}, {half, "-", high, low, 0}, {half, "-", "0", half, 0}, {"0", "-", low, half1, 0}, {"0", "-", "0", "0", 0},
		{"9223372036854775806", "-", high, "", api.ErrConst}, {"-1", "-", half1, "", api.ErrConst}, {"-1", "-", half, low, 0}, {"-1", "-", "-1", "0", 0},
	})
}

func TestProductsAtTheEnds(t *testing.T) {
	rows(t, []row{
		{high, "*", "1", high, 0}, {high, "*", "0", "0", 0}, {"0", "*", low, "0", 0}, {"-1", "*", "0", "0", 0}, {high, "*", "-1", "", api.ErrConst}, {"-1", "*", high, "", api.ErrConst},
		{half, "*", "2", high1, 0}, {half1, "*", "2", "", api.ErrConst}, {half1, "*", "-1", low, 0}, {half2, "*", "-1", "", api.ErrConst}, {half, "*", "-1", low1, 0},
		{low, "*", "-1", half1, 0}, {low, "*", "1", low, 0}, {low, "*", "-2", "", api.ErrConst}, {low, "*", "2", "", api.ErrConst}, {low1, "*", "-2", high1, 0}, {low, "*", low, "", api.ErrConst},
		{"4294967296", "*", "4294967296", "", api.ErrConst}, {"4294967296", "*", "4294967295", "18446744069414584320", 0}, {"4294967295", "*", "4294967297", high, 0}, {"-4294967295", "*", "-4294967297", high, 0},
		{"4294967296", "*", "-2147483648", low, 0}, {"4294967296", "*", "-2147483649", "", api.ErrConst}, {high, "*", high, "", api.ErrConst}, {"6148914691236517205", "*", "3", high, 0}, {"-7", "*", "-3", "21", 0},
	})
}

func TestQuotients(t *testing.T) {
	rows(t, []row{
		{"7", "/", "2", "3", 0}, {"7", "/", "-2", "-3", 0}, {"-7", "/", "2", "-3", 0}, {"-7", "/", "-2", "3", 0},
		{"7", "%", "2", "1", 0}, {"7", "%", "-2", "1", 0}, {"-7", "%", "2", "-1", 0}, {"-7", "%", "-2", "-1", 0},
		{"1", "/", "2", "0", 0}, {"1", "/", "-2", "0", 0}, {"-1", "/", "2", "0", 0}, {"-1", "/", "-2", "0", 0}, {"0", "/", "-5", "0", 0}, {"0", "%", "-5", "0", 0}, {"-8", "%", "2", "0", 0}, {"-8", "%", "-8", "0", 0},
		{low, "/", "-1", half1, 0}, {low, "%", "-1", "0", 0}, {low, "/", "1", low, 0}, {half1, "/", "-1", low, 0}, {half2, "/", "-1", "", api.ErrConst}, {high, "/", "-1", "", api.ErrConst}, {high, "%", "-1", "0", 0}, {high, "/", "-2", low1, 0},
		{high, "/", high, "1", 0}, {high, "%", low, half, 0}, {low, "%", high, low, 0}, {low, "/", high, "0", 0}, {low, "/", low, "1", 0}, {half, "%", low, half, 0}, {low, "%", half, "-1", 0}, {low, "/", half, "-1", 0},
		{"1", "/", "0", "", api.ErrZero}, {"-1", "/", "0", "", api.ErrZero}, {"0", "/", "0", "", api.ErrZero}, {"1", "%", "0", "", api.ErrZero}, {low, "%", "0", "", api.ErrZero}, {high, "/", "0", "", api.ErrZero}, {"0", "%", "0", "", api.ErrZero},
	})
}

func TestShiftsUp(t *testing.T) {
	rows(t, []row{
		{"1", "<<", "0", "1", 0}, {"1", "<<", "1", "2", 0}, {"1", "<<", "65", "", api.ErrConst}, {"1", "<<", high, "", api.ErrConst}, {"1", "<<", "4294967296", "", api.ErrConst}, {"1", "<<", half1, "", api.ErrConst},
		{"-1", "<<", "0", "-1", 0}, {"-1", "<<", "1", "-2", 0}, {"-1", "<<", "63", low, 0}, {"-1", "<<", "64", "", api.ErrConst}, {"-1", "<<", "65", "", api.ErrConst}, {"-1", "<<", high, "", api.ErrConst},
		{"0", "<<", "0", "0", 0}, {"0", "<<", "63", "0", 0}, {"0", "<<", "64", "0", 0}, {"0", "<<", "65", "0", 0}, {"0", "<<", high, "0", 0},
		{"3", "<<", "62", "13835058055282163712", 0}, {"3", "<<", "63", "", api.ErrConst}, {"-3", "<<", "61", "-6917529027641081856", 0}, {"-3", "<<", "62", "", api.ErrConst}, {"-2", "<<", "62", low, 0}, {"-2", "<<", "63", "", api.ErrConst},
		{half, "<<", "1", high1, 0}, {half1, "<<", "1", "", api.ErrConst}, {half2, "<<", "1", "", api.ErrConst}, {low, "<<", "0", low, 0}, {low, "<<", "1", "", api.ErrConst}, {high, "<<", "0", high, 0}, {high, "<<", "1", "", api.ErrConst}, {half2, "<<", "64", "", api.ErrConst},
		{"1", "<<", "-1", "", api.ErrShift}, {"0", "<<", "-1", "", api.ErrShift}, {"-1", "<<", "-1", "", api.ErrShift}, {high, "<<", low, "", api.ErrShift}, {low, "<<", low, "", api.ErrShift},
	})
}

func TestShiftsDown(t *testing.T) {
	rows(t, []row{
		{"5", ">>", "0", "5", 0}, {"5", ">>", "1", "2", 0}, {"5", ">>", "63", "0", 0}, {"5", ">>", "64", "0", 0}, {"5", ">>", "65", "0", 0}, {"5", ">>", high, "0", 0},
		{"-5", ">>", "0", "-5", 0}, {"-5", ">>", "2", "-2", 0}, {"-5", ">>", "3", "-1", 0}, {"-5", ">>", "63", "-1", 0}, {"-5", ">>", "64", "-1", 0}, {"-5", ">>", "65", "-1", 0}, {"-5", ">>", high, "-1", 0}, {"-4", ">>", "1", "-2", 0}, {"-4", ">>", "2", "-1", 0}, {"-1", ">>", "1", "-1", 0},
		{"0", ">>", "0", "0", 0}, {"0", ">>", "1", "0", 0}, {"0", ">>", "64", "0", 0}, {"0", ">>", high, "0", 0},
		{high, ">>", "1", half, 0}, {high, ">>", "63", "1", 0}, {high, ">>", "64", "0", 0}, {half1, ">>", "63", "1", 0}, {half, ">>", "63", "0", 0},
		{low, ">>", "0", low, 0}, {low, ">>", "1", "-4611686018427387904", 0}, {low1, ">>", "1", "-4611686018427387904", 0}, {low, ">>", "63", "-1", 0}, {low, ">>", "64", "-1", 0}, {low1, ">>", "62", "-2", 0}, {low, ">>", high, "-1", 0},
		{"1", ">>", "-1", "", api.ErrShift}, {"0", ">>", "-1", "", api.ErrShift}, {"-1", ">>", low, "", api.ErrShift}, {high, ">>", "-64", "", api.ErrShift},
	})
}

func TestBits(t *testing.T) {
	rows(t, []row{
		{"12", "&", "10", "8", 0}, {"12", "|", "10", "14", 0}, {"12", "^", "10", "6", 0}, {"12", "&^", "10", "4", 0}, {"10", "&^", "12", "2", 0},
		{high, "&", half1, half1, 0}, {half, "|", half1, high, 0}, {high, "^", half1, half, 0}, {high, "&^", half, half1, 0}, {high, "^", high, "0", 0}, {"0", "&^", high, "0", 0}, {high, "&^", "0", high, 0}, {"0", "|", "0", "0", 0},
	})
	for _, op := range []string{"&", "|", "^", "&^"} {
		rows(t, []row{
			{"-1", op, "1", "", api.ErrConst}, {"1", op, "-1", "", api.ErrConst}, {"-1", op, "-1", "", api.ErrConst}, {"0", op, "-1", "", api.ErrConst}, {"-1", op, "0", "", api.ErrConst},
			{low, op, "0", "", api.ErrConst}, {"0", op, low, "", api.ErrConst}, {low, op, high, "", api.ErrConst}, {high, op, low, "", api.ErrConst}, {low, op, low, "", api.ErrConst},
		})
	}
}

// P7.2.

func TestUnary(t *testing.T) {
	for _, c := range []struct {
		op, a, want string
		e           api.Errno
	}{
		{"-", "0", "0", 0}, {"-", "1", "-1", 0}, {"-", "-1", "1", 0}, {"-", half, low1, 0}, {"-", half1, low, 0}, {"-", half2, "", api.ErrConst}, {"-", high, "", api.ErrConst}, {"-", low, half1, 0}, {"-", low1, half, 0},
		{"^", "0", "-1", 0}, {"^", "-1", "0", 0}, {"^", "1", "-2", 0}, {"^", "-2", "1", 0}, {"^", "5", "-6", 0}, {"^", "-6", "5", 0},
		{"^", half, low, 0}, {"^", "9223372036854775806", low1, 0}, {"^", half1, "", api.ErrConst}, {"^", high1, "", api.ErrConst}, {"^", high, "", api.ErrConst}, {"^", low, half, 0}, {"^", low1, "9223372036854775806", 0},
	} {
		a, want := of(number(c.a)), constant{}
		if c.e == api.OK {
			want = of(number(c.want))
		}
		if neg, n, e := konst.Unary(c.op, a.neg, a.n); (constant{neg, n}) != want || e != c.e {
			t.Errorf("%s %s = %v %d, %d, not %q, %d", c.op, c.a, neg, n, e, c.want, c.e)
		}
	}
}

func TestCompare(t *testing.T) {
	// Each row goes up.
	for _, up := range [][2]string{{"1", "2"}, {"-2", "-1"}, {"-1", "1"}, {"-1", "0"}, {"0", "1"}, {"-2", "1"}, {"-1", "2"}, {low, high}, {low, low1}, {high1, high}, {low, half1}, {low1, half}, {"-1", high}, {half, half1}, {low, "-1"}, {low, "0"}} {
		a, b := of(number(up[0])), of(number(up[1]))
		for i, op := range []string{"<", "<=", "!=", ">", ">=", "=="} {
			if got, e := konst.Compare(op, a.neg, a.n, b.neg, b.n); got != (i < 3) || e != api.OK {
				t.Errorf("%s %s %s = %v, %d", up[0], op, up[1], got, e)
			}
		}
		for i, op := range []string{">", ">=", "!=", "<", "<=", "=="} {
			if got, e := konst.Compare(op, b.neg, b.n, a.neg, a.n); got != (i < 3) || e != api.OK {
				t.Errorf("%s %s %s = %v, %d", up[1], op, up[0], got, e)
			}
		}
	}
	for _, s := range []string{"0", "1", "-1", "7", "-7", low, low1, half, half1, high} {
		a := of(number(s))
		for i, op := range []string{"==", "<=", ">=", "!=", "<", ">"} {
			if got, e := konst.Compare(op, a.neg, a.n, a.neg, a.n); got != (i < 3) || e != api.OK {
				t.Errorf("%s %s %s = %v, %d", s, op, s, got, e)
			}
		}
	}
}
