// Package word is layer 1: whole numbers of six kinds, in words of 64 bits, that wrap. See shared/doc/01-word.md.
package word

import (
	"strconv"

	"mullion/api"
)

// The six kinds have numbers in a row, which api begins.
const (
	kInt8 = api.TInt8 + iota
	kUint8
	kInt32
	kUint32
	kInt64
	kUint64
)

// Bits tells how many bits a number of the kind has.
func Bits(kind int) (int, api.Errno) {
	switch kind {
	case kInt8, kUint8:
		return 8, api.OK
	case kInt32, kUint32:
		return 32, api.OK
	case kInt64, kUint64:
		return 64, api.OK
	}
	return 0, api.ErrArg
}

// Signed tells whether the kind has a sign.
func Signed(kind int) (bool, api.Errno) {
	if !isKind(kind) {
		return false, api.ErrArg
	}
	return hasSign(kind), api.OK
}

// Is tells whether n is a number of the kind; there is none of no kind.
func Is(kind int, n uint64) bool {
	return check(kind, n) == api.OK
}

// Wrap answers the number of the kind whose lowest bits are those of n.
func Wrap(kind int, n uint64) (uint64, api.Errno) {
	if !isKind(kind) {
		return 0, api.ErrArg
	}
	return wrap(kind, n), api.OK
}

// Convert answers the number of the kind to that n, of the kind from, wraps to.
func Convert(from, to int, n uint64) (uint64, api.Errno) {
	if !isKind(to) {
		return 0, api.ErrArg
	}
	if e := check(from, n); e != api.OK {
		return 0, e
	}
	return wrap(to, n), api.OK
}

// Arith answers a op b, wrapped, for + - * / % & | ^ &^.
func Arith(kind int, op string, a, b uint64) (uint64, api.Errno) {
	if !isArith(op) {
		return 0, api.ErrArg
	}
	if e := check(kind, a, b); e != api.OK {
		return 0, e
	}
	if op != "/" && op != "%" {
		return wrap(kind, combine(op, a, b)), api.OK
	}
	if b == 0 {
		return 0, api.ErrZero
	}
	return wrap(kind, divide(op, hasSign(kind), a, b)), api.OK
}

// Shift answers a of kind, shifted by n of the kind by, wrapped, for << and >>.
func Shift(kind int, op string, a uint64, by int, n uint64) (uint64, api.Errno) {
	if op != "<<" && op != ">>" || !isKind(kind) || !isKind(by) {
		return 0, api.ErrArg
	}
	if !Is(kind, a) || !Is(by, n) {
		return 0, api.ErrForm
	}
	if hasSign(by) && int64(n) < 0 {
		return 0, api.ErrShift
	}
	// The language's shifts take a count of any size, so a count beyond the kind's bits needs no case of its own.
	if op == "<<" {
		return wrap(kind, a<<n), api.OK
	}
	if hasSign(kind) {
		return uint64(int64(a) >> n), api.OK
	}
	return a >> n, api.OK
}

// Less tells whether a is below b.
func Less(kind int, a, b uint64) (bool, api.Errno) {
	if e := check(kind, a, b); e != api.OK {
		return false, e
	}
	if hasSign(kind) {
		return int64(a) < int64(b), api.OK
	}
	return a < b, api.OK
}

// Text answers the decimal digits of n, with - ahead below 0.
func Text(kind int, n uint64) (string, api.Errno) {
	if e := check(kind, n); e != api.OK {
		return "", e
	}
	if hasSign(kind) {
		return strconv.FormatInt(int64(n), 10), api.OK
	}
	return strconv.FormatUint(n, 10), api.OK
}

// isKind tells whether kind is one of the six.
func isKind(kind int) bool {
	return kInt8 <= kind && kind <= kUint64
}

// hasSign tells whether one of the six kinds has a sign.
func hasSign(kind int) bool {
	return kind == kInt8 || kind == kInt32 || kind == kInt64
}

// check answers ErrArg if kind is none of the six, and ErrForm if one of the words is no number of it.
func check(kind int, words ...uint64) api.Errno {
	if !isKind(kind) {
		return api.ErrArg
	}
	for _, n := range words {
		if wrap(kind, n) != n {
			return api.ErrForm
		}
	}
	return api.OK
}

// wrap is Wrap for one of the six kinds. The conversion to the kind keeps the lowest bits, the one back carries them on as the kind asks.
func wrap(kind int, n uint64) uint64 {
	switch kind {
	case kInt8:
		return uint64(int8(n))
	case kUint8:
		return uint64(uint8(n))
	case kInt32:
		return uint64(int32(n))
	case kUint32:
		return uint64(uint32(n))
	}
	return n
}

// isArith tells whether op is an operator of Arith.
func isArith(op string) bool {
	switch op {
	case "+", "-", "*", "/", "%", "&", "|", "^", "&^":
		return true
	}
	return false
}

// combine works on words alone: the lowest bits of what these operators answer hang on no bits above them, so the kind does not matter.
func combine(op string, a, b uint64) uint64 {
	switch op {
	case "+":
		return a + b
	case "-":
		return a - b
	case "*":
		return a * b
	case "&":
		return a & b
	case "|":
		return a | b
	case "^":
		return a ^ b
	}
	return a &^ b
}

// divide answers a / b or a % b for a b that is not 0. The least number of 64 bits divided by -1 is itself in the language too.
func divide(op string, sign bool, a, b uint64) uint64 {
	switch {
	case sign && op == "/":
		return uint64(int64(a) / int64(b))
	case sign:
		return uint64(int64(a) % int64(b))
	case op == "/":
		return a / b
	}
	return a % b
}
