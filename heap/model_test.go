package heap_test

import (
	"fmt"
	"math/rand"
	"slices"
	"testing"

	"mullion/api"
	"mullion/heap"
)

// The model keeps its objects in a list by names, counts what they take whenever it is asked, and finds what is reached by going through all of them till nothing more comes.

type modelCell struct {
	n   uint64
	ref bool
}

type modelObject struct {
	isThere bool
	cells   []modelCell
}

type model struct {
	budget int
	slots  []modelObject // by name; there is none at 0
}

func newModel(budget int) *model {
	return &model{budget, make([]modelObject, 1)}
}

func (m *model) has(o int) bool {
	return 0 < o && o < len(m.slots) && m.slots[o].isThere
}

func (m *model) names() []int {
	var list []int
	for o := range m.slots {
		if m.has(o) {
			list = append(list, o)
		}
	}
	return list
}

func (m *model) used() int {
	all := 0
	for _, o := range m.names() {
		all += len(m.slots[o].cells) + 1
	}
	return all
}

func (m *model) reach(roots []int) ([]int, api.Errno) {
	isReached := make([]bool, len(m.slots))
	for _, r := range roots {
		if r != 0 && !m.has(r) {
			return nil, api.ErrNone
		}
		isReached[r] = r != 0
	}
	for more := true; more; {
		more = false
		for o, s := range m.slots {
			for _, c := range s.cells {
				if isReached[o] && c.ref && c.n != 0 && !isReached[c.n] {
					isReached[c.n], more = true, true
				}
			}
		}
	}
	var list []int
	for o, is := range isReached {
		if is {
			list = append(list, o)
		}
	}
	return list, api.OK
}

func (m *model) collect(roots []int) (int, api.Errno) {
	stay, e := m.reach(roots)
	if e != api.OK {
		return 0, e
	}
	gone := 0
	for _, o := range m.names() {
		if !slices.Contains(stay, o) {
			m.slots[o] = modelObject{}
			gone++
		}
	}
	return gone, api.OK
}

func (m *model) alloc(refs []bool, roots []int) (int, api.Errno) {
	if len(refs) > 262146 {
		return 0, api.ErrArg
	}
	if _, e := m.reach(roots); e != api.OK {
		return 0, e
	}
	if m.used()+1+len(refs) > m.budget {
		m.collect(roots)
	}
	if m.used()+1+len(refs) > m.budget {
		return 0, api.ErrFull
	}
	name := 1
	for m.has(name) {
		name++
	}
	if name == len(m.slots) {
		m.slots = append(m.slots, modelObject{})
	}
	m.slots[name].isThere = true
	for _, r := range refs {
		m.slots[name].cells = append(m.slots[name].cells, modelCell{0, r})
	}
	return name, api.OK
}

func (m *model) get(o, i int) (uint64, bool, api.Errno) {
	switch {
	case !m.has(o):
		return 0, false, api.ErrNone
	case i < 0 || i >= len(m.slots[o].cells):
		return 0, false, api.ErrRange
	}
	c := m.slots[o].cells[i]
	return c.n, c.ref, api.OK
}

func (m *model) set(o, i int, n uint64) api.Errno {
	_, ref, e := m.get(o, i)
	switch {
	case e != api.OK:
		return e
	case ref && n != 0 && (n >= uint64(len(m.slots)) || !m.has(int(n))):
		return api.ErrNone
	}
	m.slots[o].cells[i].n = n
	return api.OK
}

func (m *model) copy() *model {
	c := &model{m.budget, slices.Clone(m.slots)}
	for o := range c.slots {
		c.slots[o].cells = slices.Clone(c.slots[o].cells)
	}
	return c
}

// pair is a heap and the model of it.
type pair struct {
	h *heap.Heap
	m *model
}

func newPair(budget int) pair {
	h, _ := heap.New(budget)
	return pair{h, newModel(budget)}
}

// wantSame holds all that a heap tells against its model.
func (p pair) wantSame(t *testing.T) {
	t.Helper()
	wantThere(t, p.h, p.m.used(), p.m.names()...)
	for o := -1; o <= len(p.m.slots); o++ {
		n := 0
		if p.m.has(o) {
			n = len(p.m.slots[o].cells)
			wantLen(t, p.h, o, n, api.OK)
		} else {
			wantLen(t, p.h, o, 0, api.ErrNone)
		}
		for i := -1; i <= n; i++ {
			word, ref, e := p.m.get(o, i)
			wantGet(t, p.h, o, i, word, ref, e)
		}
		p.wantReach(t, []int{o})
	}
	p.wantReach(t, nil)
	p.wantReach(t, p.m.names())
}

func (p pair) wantReach(t *testing.T, roots []int) {
	t.Helper()
	if len(roots) > 0 && roots[0] < 0 {
		wantReach(t, p.h, roots, nil, api.ErrNone)
		return
	}
	names, e := p.m.reach(roots)
	wantReach(t, p.h, roots, names, e)
}

// act does something by chance to both, and tells what.
func (p pair) act(t *testing.T, r *rand.Rand) string {
	t.Helper()
	roots := p.someRoots(r)
	o, i := r.Intn(len(p.m.slots)+1), r.Intn(5)-1
	switch r.Intn(10) {
	case 0:
		n, e := p.m.collect(roots)
		wantCollect(t, p.h, roots, n, e)
		return fmt.Sprint("collect", roots)
	case 1, 2, 3, 4:
		refs := someRefs(r)
		before := p.m.used()
		o, e := p.m.alloc(refs, roots)
		wantAlloc(t, p.h, refs, roots, o, e)
		if e == api.OK && p.m.used() != before+len(refs)+1 {
			return "alloc by a collection"
		}
		return fmt.Sprint("alloc ", e)
	default:
		n := uint64(r.Intn(len(p.m.slots) + 2))
		if r.Intn(10) == 0 {
			n = r.Uint64()
		}
		e := p.m.set(o, i, n)
		wantSet(t, p.h, o, i, n, e)
		return fmt.Sprint("set ", e)
	}
}

// someRoots: mostly 0 and objects.
func (p pair) someRoots(r *rand.Rand) []int {
	var roots []int
	names := append(p.m.names(), 0)
	for range r.Intn(4) {
		roots = append(roots, names[r.Intn(len(names))])
	}
	if r.Intn(12) == 0 {
		roots = append(roots, r.Intn(len(p.m.slots)+1))
	}
	return roots
}

func someRefs(r *rand.Rand) []bool {
	refs := make([]bool, r.Intn(4))
	for i := range refs {
		refs[i] = r.Intn(3) > 0
	}
	if r.Intn(30) == 0 {
		refs = make([]bool, 40)
	}
	return refs
}

// TestHeapsByChance: heaps and copies of them, each of which is held against a model whenever something is done to one.
func TestHeapsByChance(t *testing.T) {
	count := map[string]int{}
	for seed := range 150 {
		r := rand.New(rand.NewSource(int64(seed)))
		all := []pair{newPair(r.Intn(50))}
		for step := range 120 {
			at := r.Intn(len(all))
			if r.Intn(40) == 0 {
				all = append(all, pair{all[at].h.Copy(), all[at].m.copy()})
			}
			done := all[at].act(t, r)
			count[done]++
			for _, p := range all {
				p.wantSame(t)
			}
			if t.Failed() {
				t.Fatalf("seed %d, step %d: %s of heap %d", seed, step, done, at)
			}
		}
	}
	for _, what := range []string{"alloc 0", "alloc 15", "alloc 20", "alloc by a collection", "set 0", "set 15", "set 16"} {
		if count[what] < 100 {
			t.Errorf("there are too few of %q: %d", what, count[what])
		}
	}
}

// TestSmallGraphs: all ways in which three objects of two cells name one another, and all their roots.
func TestSmallGraphs(t *testing.T) {
	const ways = 4 * 4 * 4 * 4 * 4 * 4
	for way := range ways {
		p := newPair(9)
		for range 3 {
			_, _ = p.h.Alloc([]bool{ref, ref}, nil)
			_, _ = p.m.alloc([]bool{ref, ref}, nil)
		}
		for at, left := 0, way; at < 6; at, left = at+1, left/4 {
			wantSet(t, p.h, 1+at/2, at%2, uint64(left%4), p.m.set(1+at/2, at%2, uint64(left%4)))
		}
		for set := range 8 {
			var roots []int
			for o := range 3 {
				if set>>o&1 == 1 {
					roots = append(roots, o+1)
				}
			}
			p.wantReach(t, roots)
			c := pair{p.h.Copy(), p.m.copy()}
			o, e := c.m.alloc([]bool{no, ref}, roots)
			wantAlloc(t, c.h, []bool{no, ref}, roots, o, e)
			wantThere(t, c.h, c.m.used(), c.m.names()...)
		}
		if t.Failed() {
			t.Fatalf("way %d", way)
		}
	}
}
