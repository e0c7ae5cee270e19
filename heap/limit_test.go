package heap_test

import (
	"slices"
	"testing"

	"mullion/api"
	"mullion/heap"
)

const (
	most = 65536       // cells of a heap
	wide = 4096*64 + 2 // cells that an object may be asked to have
)

// P12.3.

func TestBudget(t *testing.T) {
	for _, cells := range []int{0, 1, 2, 3, 17, 4096, most - 1, most} {
		h := objects(t, cells)
		wantAlloc(t, h, make([]bool, cells), nil, 0, api.ErrFull)
		wantAlloc(t, h, make([]bool, cells+1), nil, 0, api.ErrFull)
		if cells == 0 {
			wantAlloc(t, h, nil, nil, 0, api.ErrFull)
			continue
		}
		wantAlloc(t, h, make([]bool, cells-1), nil, 1, api.OK)
		wantThere(t, h, cells, 1)
		wantAlloc(t, h, nil, []int{1}, 0, api.ErrFull)
		wantAlloc(t, h, make([]bool, cells-1), nil, 1, api.OK)
		wantThere(t, h, cells, 1)
	}
}

func TestWidestObject(t *testing.T) {
	for _, cells := range []int{0, 5, most} {
		h := objects(t, cells)
		for _, n := range []int{most, most + 1, wide - 1, wide} {
			wantAlloc(t, h, make([]bool, n), nil, 0, api.ErrFull)
			wantAlloc(t, h, make([]bool, n), []int{1}, 0, api.ErrNone)
		}
		for _, n := range []int{wide + 1, wide + 2, 2 * wide} {
			wantAlloc(t, h, make([]bool, n), nil, 0, api.ErrArg)
			wantAlloc(t, h, make([]bool, n), []int{1}, 0, api.ErrArg)
		}
	}
	// What may be asked for and does not fit has others go; what may not be asked for has none go.
	h := objects(t, 5, nil, nil)
	wantAlloc(t, h, make([]bool, wide+1), nil, 0, api.ErrArg)
	wantThere(t, h, 2, 1, 2)
	wantAlloc(t, h, make([]bool, wide), []int{2}, 0, api.ErrFull)
	wantThere(t, h, 1, 2)
}

// TestManyObjects: as many as there can be, whose names are as great as they can be.
func TestManyObjects(t *testing.T) {
	h := objects(t, most, slices.Repeat([][]bool{nil}, most)...)
	if h.Used() != most {
		t.Errorf("Used: %d", h.Used())
	}
	wantLen(t, h, most, 0, api.OK)
	wantLen(t, h, most+1, 0, api.ErrNone)
	wantReach(t, h, []int{most, 1}, []int{1, most}, api.OK)
	wantReach(t, h, []int{most + 1}, nil, api.ErrNone)
	all := slices.Collect(h.All())
	for i, o := range all {
		if o != i+1 {
			t.Fatalf("the object at %d is %d", i, o)
		}
	}
	wantReach(t, h, all, all, api.OK)
	wantAlloc(t, h, nil, all, 0, api.ErrFull)
	wantAlloc(t, h, nil, slices.Concat(all[:300], all[301:]), 301, api.OK)
	wantAlloc(t, h, []bool{ref}, all[2:], 1, api.OK)
	link(t, h, 1, 0, most)
	wantReach(t, h, []int{1}, []int{1, most}, api.OK)
	wantSet(t, h, 1, 0, 2, api.ErrNone)
	wantCollect(t, h, []int{1}, most-3, api.OK)
	wantThere(t, h, 3, 1, most)
}

// TestLongChain: each object names the one ahead of it, and the first the last.
func TestLongChain(t *testing.T) {
	const n = most / 2
	h := objects(t, most, slices.Repeat([][]bool{{ref}}, n)...)
	for o := 2; o <= n; o++ {
		link(t, h, o, 0, uint64(o-1))
	}
	link(t, h, 1, 0, n)
	for _, root := range []int{1, 2, n / 2, n} {
		if l, e := h.Reach([]int{root}); len(l) != n || e != api.OK {
			t.Errorf("Reach(%d): %d, %d", root, len(l), e)
		}
	}
	wantAlloc(t, h, nil, []int{5}, 0, api.ErrFull)
	link(t, h, 1, 0, 0)
	wantCollect(t, h, []int{n / 2}, n/2, api.OK)
	wantAlloc(t, h, nil, []int{n / 2}, n/2+1, api.OK)
	wantCollect(t, h, []int{0}, n/2+1, api.OK)
	wantThere(t, h, 0)
}

// TestWideObject: each cell of one object names another.
func TestWideObject(t *testing.T) {
	const n = 20000
	h := objects(t, most, slices.Repeat([]bool{ref}, n))
	for i := range n {
		if o, e := h.Alloc([]bool{no}, []int{1}); o != i+2 || e != api.OK {
			t.Fatalf("Alloc: %d, %d", o, e)
		}
		link(t, h, 1, i, uint64(i+2))
	}
	if l, e := h.Reach([]int{1}); len(l) != n+1 || e != api.OK {
		t.Errorf("Reach: %d, %d", len(l), e)
	}
	link(t, h, 1, 7000, 0)
	link(t, h, 1, 19999, 1)
	wantCollect(t, h, []int{1}, 2, api.OK)
	wantLen(t, h, 7002, 0, api.ErrNone)
	wantLen(t, h, 20001, 0, api.ErrNone)
	if h.Used() != n+1+2*(n-2) {
		t.Errorf("Used: %d", h.Used())
	}
}

// TestManyRoots: more roots than there may be objects.
func TestManyRoots(t *testing.T) {
	h := objects(t, 10, nil, []bool{ref}, nil)
	roots := slices.Repeat([]int{0, 3, 3}, 100000)
	wantReachOnly := func(names ...int) {
		t.Helper()
		if l, e := h.Reach(roots); !slices.Equal(l, names) || e != api.OK {
			t.Errorf("Reach: %v, %d", l, e)
		}
	}
	wantReachOnly(3)
	roots[len(roots)-1] = 1
	wantReachOnly(1, 3)
	roots[len(roots)-1] = 4
	if n, e := h.Collect(roots); n != 0 || e != api.ErrNone {
		t.Errorf("Collect: %d, %d", n, e)
	}
	wantThere(t, h, 4, 1, 2, 3)
}

func TestGreatestHeapIsCopied(t *testing.T) {
	h := objects(t, most, make([]bool, 30000), slices.Repeat([]bool{ref}, 30000))
	link(t, h, 1, 29999, 1<<64-1)
	link(t, h, 2, 29999, 1)
	var c *heap.Heap = h.Copy()
	wantCollect(t, h, nil, 2, api.OK)
	wantGet(t, c, 1, 29999, 1<<64-1, no, api.OK)
	wantReach(t, c, []int{2}, []int{1, 2}, api.OK)
	wantAlloc(t, c, make([]bool, most-60002), []int{2}, 0, api.ErrFull)
	wantAlloc(t, c, make([]bool, most-60003), []int{2}, 3, api.OK)
	wantThere(t, c, most, 1, 2, 3)
}
