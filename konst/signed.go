package konst

import (
	"math/bits"
	"strconv"
)

// signed is the number size, or, with neg, the number -size. It reaches further down than constants do, so that minus always has an answer.
type signed struct {
	neg  bool
	size uint64
}

// isSound tells whether a is a sound constant.
func (a signed) isSound() bool {
	return !a.neg || 1 <= a.size && a.size <= 1<<63
}

// combine answers a op b for the operators of Fold, which forbids lets through; false: its size has more than 64 bits.
func combine(op string, a, b signed) (signed, bool) {
	switch op {
	case "+":
		return add(a, b)
	case "-":
		return add(a, minus(b))
	case "*":
		high, low := bits.Mul64(a.size, b.size)
		return signed{a.neg != b.neg, low}, high == 0
	case "/":
		return signed{a.neg != b.neg, a.size / b.size}, true
	case "%":
		return signed{a.neg, a.size % b.size}, true
	case "<<":
		return shiftUp(a, b.size)
	case ">>":
		return shiftDown(a, b.size), true
	}
	return signed{false, combineBits(op, a.size, b.size)}, true
}

// combineBits answers a op b for & | ^ &^.
func combineBits(op string, a, b uint64) uint64 {
	switch op {
	case "&":
		return a & b
	case "|":
		return a | b
	case "^":
		return a ^ b
	}
	return a &^ b
}

// minus answers -a.
func minus(a signed) signed {
	return signed{!a.neg, a.size}
}

// add answers a + b; false: its size has more than 64 bits.
func add(a, b signed) (signed, bool) {
	switch {
	case a.neg == b.neg:
		sum, carry := bits.Add64(a.size, b.size, 0)
		return signed{a.neg, sum}, carry == 0
	case a.size < b.size:
		return signed{b.neg, b.size - a.size}, true
	}
	return signed{a.neg, a.size - b.size}, true
}

// shiftUp answers a times 2^by; false: its size has more than 64 bits.
func shiftUp(a signed, by uint64) (signed, bool) {
	// A shift by 64 bits or more leaves 0, so what does not come back has lost bits, whatever the count; 0 has none to lose.
	size := a.size << by
	return signed{a.neg, size}, size>>by == a.size
}

// shiftDown answers the greatest number that is not above a divided by 2^by.
func shiftDown(a signed, by uint64) signed {
	if !a.neg {
		return signed{false, a.size >> by}
	}
	// Below 0 the size has to be rounded up.
	return signed{true, (a.size-1)>>by + 1}
}

// less tells whether a is below b, both sound.
func less(a, b signed) bool {
	switch {
	case a.neg != b.neg:
		return a.neg
	case a.neg:
		return a.size > b.size
	}
	return a.size < b.size
}

// holds tells whether a op b, both sound, for the operators of Compare.
func holds(op string, a, b signed) bool {
	switch op {
	case "==":
		return a == b
	case "!=":
		return a != b
	case "<":
		return less(a, b)
	case "<=":
		return !less(b, a)
	case ">":
		return less(b, a)
	}
	return !less(a, b)
}

// wordOf answers the lowest 64 bits of a number.
func wordOf(a signed) uint64 {
	if a.neg {
		return -a.size
	}
	return a.size
}

// numberOf answers the number that a word is, of a kind with a sign or without one.
func numberOf(hasSign bool, w uint64) signed {
	if hasSign && w>>63 == 1 {
		return signed{true, -w}
	}
	return signed{false, w}
}

// digits answers the decimal digits of a number, with - ahead below 0.
func digits(a signed) string {
	text := strconv.FormatUint(a.size, 10)
	if a.neg {
		return "-" + text
	}
	return text
}
