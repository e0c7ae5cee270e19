package strength_test

import (
	"strings"
	"testing"

	"mullion/strength"
)

func TestOf(t *testing.T) {
	for i, ops := range []string{"||", "&&", "== != < <= > >=", "+ - | ^", "* / % << >> & &^"} {
		for _, op := range strings.Fields(ops) {
			if n := strength.Of(op); n != i+1 {
				t.Errorf("Of(%s) = %d, not %d", op, n, i+1)
			}
		}
	}
	for _, s := range []string{"", "!", "=", ":=", "<-", "(", "x", "++", " +", "+ ", "&&&", "\xff", "\x00"} {
		if n := strength.Of(s); n != 0 {
			t.Errorf("Of(%q) = %d, not 0", s, n)
		}
	}
}
