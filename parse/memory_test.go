package parse_test

import (
	"math/rand"
	"reflect"
	"testing"

	"mullion/api"
)

// places tells where the nodes of all lists of n stand, spare room included.
func places(n api.Node) []*api.Node {
	var all []*api.Node
	list := n.List[:cap(n.List)]
	for i := range list {
		all = append(all, &list[i])
		all = append(all, places(list[i])...)
	}
	return all
}

// spoil changes all that n's lists hold, spare room included.
func spoil(n api.Node) {
	list := n.List[:cap(n.List)]
	for i := range list {
		spoil(list[i])
		list[i] = api.Node{Kind: -1, Text: "spoilt", N: 9, At: -9}
	}
}

// TestTreesShareNothing: neither two lists of one answer, nor two answers.
func TestTreesShareNothing(t *testing.T) {
	w := newWriter(rand.New(rand.NewSource(9)))
	texts := []string{"func f(x T) { select { case <-c: case x := <-d: f(x, y); case (<-c) <- x: default: } }", "func f() { x[0] = g[[]T](func(A, B) C) }"}
	for range 200 {
		*w = writer{r: w.r}
		w.program()
		texts = append(texts, w.text)
	}
	for _, s := range texts {
		a, at, err := program.read(s)
		b, _, _ := program.read(s)
		seen := map[*api.Node]bool{}
		for _, p := range append(places(a), places(b)...) {
			if seen[p] {
				t.Errorf("Parse of %q shares memory", s)
			}
			seen[p] = true
		}
		was := tidy(b)
		spoil(a)
		c, again, same := program.read(s)
		if !reflect.DeepEqual(tidy(b), was) || !reflect.DeepEqual(tidy(c), was) || again != at || same != err {
			t.Errorf("Parse of %q answers otherwise", s)
		}
	}
}

// TestAnyText: bytes and tokens by chance are answered.
func TestAnyText(t *testing.T) {
	r := rand.New(rand.NewSource(10))
	for range 3000 {
		b := make([]byte, r.Intn(40))
		for i := range b {
			b[i] = byte(r.Intn(256))
			if r.Intn(3) > 0 {
				b[i] = " \n(){}[];:=<-x.,1"[r.Intn(17)]
			}
		}
		for _, e := range entries {
			if n, at, err := e.read(string(b)); err == api.OK && e.sound(n) != api.OK || err != api.OK && !reflect.DeepEqual(tidy(n), api.Node{}) || at < 0 || at > len(b) {
				t.Errorf("%s of %q = %s, %d, %d", e.start, b, show(n), at, err)
			}
		}
	}
}
