// Package letter tells the characters that names are made of, and names, for all layers that read or check them. See shared/doc/02-types.md.
package letter

import "mullion/api"

// Is tells whether c is a letter. The signs of multiplication (D7) and of division (F7) stand among the letters and are none.
func Is(c rune) bool {
	switch {
	case 'A' <= c && c <= 'Z', 'a' <= c && c <= 'z', c == '_':
		return true
	case c == 0xD7, c == 0xF7:
		return false
	}
	return 0xC0 <= c && c <= 0x24F
}

// IsDigit tells whether c is a digit.
func IsDigit(c rune) bool {
	return '0' <= c && c <= '9'
}

// IsName tells whether s is a name; a word of the language is one too. A byte that belongs to no character is told by the range as U+FFFD, which is no letter.
func IsName(s string) bool {
	if s == "" || len(s) > api.MaxName {
		return false
	}
	for i, c := range s {
		if !Is(c) && (i == 0 || !IsDigit(c)) {
			return false
		}
	}
	return true
}
