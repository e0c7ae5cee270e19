package mono_test

import (
	"math/rand"
	"slices"
	"testing"

	"mullion/api"
	"mullion/check"
	"mullion/mono"
	"mullion/parse"
	"mullion/print"
)

// TestProgramsByChance: instances are those that were noted when a program was made.
func TestProgramsByChance(t *testing.T) {
	m := &maker{r: rand.New(rand.NewSource(10))}
	count := map[string]int{}
	for range 1500 {
		text := m.program()
		if len(text) > 30000 {
			continue
		}
		n, at, e := check.Source(text)
		if e == api.ErrLarge && at == 0 {
			continue
		}
		if e != api.OK {
			t.Fatalf("error %d at %d (%.30s) of\n%s", e, at, text[at:], text)
		}
		want, which := m.instances()
		if which != "" {
			wantDeep(t, text, which)
			count["deep"]++
			continue
		}
		wantList(t, text, want...)
		count["fine"]++
		if len(want) > 5 {
			count["more"]++
		}
		if len(want) > 20 {
			count["many"]++
		}
		written, _ := print.Text(n)
		again, _, _ := parse.Parse(written)
		if list, _, e := mono.Expand(again); e != api.OK || !slices.Equal(told(t, list), want) {
			t.Errorf("of a program that is written and read: %d, %q, not %q", e, told(t, list), want)
		}
		if t.Failed() {
			return
		}
	}
	if count["deep"] < 200 || count["fine"] < 800 || count["more"] < 500 || count["many"] < 100 {
		t.Errorf("there are too few of some: %v", count)
	}
}
