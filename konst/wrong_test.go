package konst_test

import (
	"math"
	"testing"

	"mullion/api"
	"mullion/konst"
)

// sides: sound constants with unsound ones, and unsound ones with both.
func sides() [][2]constant {
	var out [][2]constant
	for _, bad := range unsound() {
		for _, c := range append(unsound(), constant{}, constant{false, 1}, constant{true, 1}, constant{false, 64}, constant{true, top}, constant{false, math.MaxUint64}) {
			out = append(out, [2]constant{bad, c}, [2]constant{c, bad})
		}
	}
	return out
}

// foldIs, unaryIs, compareIs: the call answers the error, and nothing beside it.
func foldIs(t *testing.T, op string, a, b constant, want api.Errno) {
	t.Helper()
	if neg, n, e := konst.Fold(op, a.neg, a.n, b.neg, b.n); neg || n != 0 || e != want {
		t.Errorf("Fold(%q, %v, %v) = %v %d, %d, not %d", op, a, b, neg, n, e, want)
	}
}

func unaryIs(t *testing.T, op string, a constant, want api.Errno) {
	t.Helper()
	if neg, n, e := konst.Unary(op, a.neg, a.n); neg || n != 0 || e != want {
		t.Errorf("Unary(%q, %v) = %v %d, %d, not %d", op, a, neg, n, e, want)
	}
}

func compareIs(t *testing.T, op string, a, b constant, want api.Errno) {
	t.Helper()
	if got, e := konst.Compare(op, a.neg, a.n, b.neg, b.n); got || e != want {
		t.Errorf("Compare(%q, %v, %v) = %v, %d, not %d", op, a, b, got, e, want)
	}
}

// TestUnsound: ErrForm, whichever of the two is not sound, ahead of ErrZero, ErrShift and ErrConst.
func TestUnsound(t *testing.T) {
	for _, s := range sides() {
		for _, op := range foldOps() {
			foldIs(t, op, s[0], s[1], api.ErrForm)
		}
		for _, op := range compareOps() {
			compareIs(t, op, s[0], s[1], api.ErrForm)
		}
	}
	for _, c := range unsound() {
		unaryIs(t, "-", c, api.ErrForm)
		unaryIs(t, "^", c, api.ErrForm)
		for _, k := range kindRows() {
			if w, e := konst.Fits(k.kind, c.neg, c.n); w != 0 || e != api.ErrForm {
				t.Errorf("Fits(%d, %v) = %d, %d, not ErrForm", k.kind, c, w, e)
			}
		}
		if s, e := konst.Text(c.neg, c.n); s != "" || e != api.ErrForm {
			t.Errorf("Text(%v) = %q, %d, not ErrForm", c, s, e)
		}
	}
}

// others: the texts that a call does not name: no operators, and those of the other calls.
func others(mine []string) []string {
	var out []string
	for _, op := range append(append(noOps(), foldOps()...), compareOps()...) {
		named := false
		for _, m := range mine {
			named = named || m == op
		}
		if !named {
			out = append(out, op)
		}
	}
	return out
}

// TestNoOperator: ErrArg, also ahead of ErrForm.
func TestNoOperator(t *testing.T) {
	pairs := append(sides(), [2]constant{}, [2]constant{{false, 1}, {false, 0}}, [2]constant{{true, 1}, {true, 1}}, [2]constant{{false, math.MaxUint64}, {false, math.MaxUint64}})
	for _, p := range pairs {
		for _, op := range others(foldOps()) {
			foldIs(t, op, p[0], p[1], api.ErrArg)
		}
		for _, op := range others([]string{"-", "^"}) {
			unaryIs(t, op, p[0], api.ErrArg)
		}
		for _, op := range others(compareOps()) {
			compareIs(t, op, p[0], p[1], api.ErrArg)
		}
	}
}

// TestNoKind: ErrArg, also ahead of ErrForm and ErrConst.
func TestNoKind(t *testing.T) {
	for _, kind := range noKinds() {
		for _, c := range append(unsound(), edges()...) {
			if w, e := konst.Fits(kind, c.neg, c.n); w != 0 || e != api.ErrArg {
				t.Errorf("Fits(%d, %v) = %d, %d, not ErrArg", kind, c, w, e)
			}
			if neg, n, e := konst.Of(kind, c.n); neg || n != 0 || e != api.ErrArg {
				t.Errorf("Of(%d, %d) = %v %d, %d, not ErrArg", kind, c.n, neg, n, e)
			}
		}
	}
}
