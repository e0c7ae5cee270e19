package letter_test

import (
	"strings"
	"testing"

	"mullion/letter"
)

func TestIs(t *testing.T) {
	for c := rune(-1); c <= 0x3000; c++ {
		alone := string(c)
		want := strings.Contains("ABCDEFGHIJKLMNOPQRSTUVWXYZ_abcdefghijklmnopqrstuvwxyz", alone) || c >= 0xC0 && c <= 0x24F && alone != "\u00d7" && alone != "\u00f7"
		if letter.Is(c) != want {
			t.Errorf("Is(%x) = %v", c, !want)
		}
		if digit := strings.Contains("0123456789", alone); letter.IsDigit(c) != digit {
			t.Errorf("IsDigit(%x) = %v", c, !digit)
		}
	}
	for _, c := range []rune{-1 << 31, 0x4E00, 0xFF21, 0xFFFD, 0x10FFFF, 1<<31 - 1} {
		if letter.Is(c) || letter.IsDigit(c) {
			t.Errorf("%x is a letter or a digit", c)
		}
	}
}

func TestIsName(t *testing.T) {
	for _, s := range []string{"a", "_", "a0", "func", "\u024f9", strings.Repeat("n", 64), strings.Repeat("\u00e9", 32)} {
		if !letter.IsName(s) {
			t.Errorf("IsName(%q) = false", s)
		}
	}
	for _, s := range []string{"", "0", "0a", "a b", "a\u00d7", "\xc3", "a\xff", strings.Repeat("n", 65), strings.Repeat("\u00e9", 33)} {
		if letter.IsName(s) {
			t.Errorf("IsName(%q) = true", s)
		}
	}
}
