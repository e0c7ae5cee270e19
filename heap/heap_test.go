package heap_test

import (
	"math"
	"slices"
	"testing"

	"mullion/api"
	"mullion/heap"
)

const (
	ref = true
	no  = false
)

// objects makes a heap with one object for each list of refs, all of which fit.
func objects(t *testing.T, cells int, lists ...[]bool) *heap.Heap {
	t.Helper()
	h, e := heap.New(cells)
	if e != api.OK {
		t.Fatalf("New(%d): %d", cells, e)
	}
	for i, refs := range lists {
		if o, e := h.Alloc(refs, nil); o != i+1 || e != api.OK {
			t.Fatalf("Alloc of object %d: %d, %d", i+1, o, e)
		}
	}
	return h
}

// link puts a name into the cell i of the object o.
func link(t *testing.T, h *heap.Heap, o, i int, n uint64) {
	t.Helper()
	if e := h.Set(o, i, n); e != api.OK {
		t.Fatalf("Set(%d, %d, %d): %d", o, i, n, e)
	}
}

func wantAlloc(t *testing.T, h *heap.Heap, refs []bool, roots []int, o int, e api.Errno) {
	t.Helper()
	if gotO, gotE := h.Alloc(refs, roots); gotO != o || gotE != e {
		t.Errorf("Alloc of %d cells with the roots %v: %d, %d, not %d, %d", len(refs), roots, gotO, gotE, o, e)
	}
}

func wantGet(t *testing.T, h *heap.Heap, o, i int, n uint64, isRef bool, e api.Errno) {
	t.Helper()
	if gotN, gotRef, gotE := h.Get(o, i); gotN != n || gotRef != isRef || gotE != e {
		t.Errorf("Get(%d, %d): %d, %t, %d, not %d, %t, %d", o, i, gotN, gotRef, gotE, n, isRef, e)
	}
}

func wantSet(t *testing.T, h *heap.Heap, o, i int, n uint64, e api.Errno) {
	t.Helper()
	if got := h.Set(o, i, n); got != e {
		t.Errorf("Set(%d, %d, %d): %d, not %d", o, i, n, got, e)
	}
}

func wantLen(t *testing.T, h *heap.Heap, o, n int, e api.Errno) {
	t.Helper()
	if gotN, gotE := h.Len(o); gotN != n || gotE != e {
		t.Errorf("Len(%d): %d, %d, not %d, %d", o, gotN, gotE, n, e)
	}
}

func wantReach(t *testing.T, h *heap.Heap, roots, names []int, e api.Errno) {
	t.Helper()
	if got, gotE := h.Reach(roots); !slices.Equal(got, names) || gotE != e {
		t.Errorf("Reach(%v): %v, %d, not %v, %d", roots, got, gotE, names, e)
	}
}

func wantCollect(t *testing.T, h *heap.Heap, roots []int, n int, e api.Errno) {
	t.Helper()
	if got, gotE := h.Collect(roots); got != n || gotE != e {
		t.Errorf("Collect(%v): %d, %d, not %d, %d", roots, got, gotE, n, e)
	}
}

// wantThere asks which objects there are, and what they take.
func wantThere(t *testing.T, h *heap.Heap, used int, names ...int) {
	t.Helper()
	if got := slices.Collect(h.All()); h.Used() != used || !slices.Equal(got, names) {
		t.Errorf("there are %v, used %d, not %v, %d", got, h.Used(), names, used)
	}
}

func TestExample(t *testing.T) {
	h := objects(t, 5)
	wantAlloc(t, h, []bool{ref, no}, nil, 1, api.OK)
	wantThere(t, h, 3, 1)
	wantAlloc(t, h, []bool{no}, []int{1}, 2, api.OK)
	wantThere(t, h, 5, 1, 2)
	wantAlloc(t, h, []bool{}, []int{1}, 2, api.OK)
	wantThere(t, h, 4, 1, 2)
	wantLen(t, h, 2, 0, api.OK)
}

// P12.1.

func TestNew(t *testing.T) {
	for cells, want := range map[int]api.Errno{
		math.MinInt: api.ErrArg, -1: api.ErrArg, 0: api.OK, 1: api.OK, 65535: api.OK, 65536: api.OK, 65537: api.ErrArg, math.MaxInt: api.ErrArg,
	} {
		h, e := heap.New(cells)
		if e != want || (h == nil) != (want != api.OK) {
			t.Errorf("New(%d): nil %t, %d", cells, h == nil, e)
		}
		if h != nil {
			wantThere(t, h, 0)
		}
	}
}

// TestUsed: an object takes one cell more than it has.
func TestUsed(t *testing.T) {
	h := objects(t, 100, nil, []bool{no}, []bool{ref, ref}, make([]bool, 20))
	wantThere(t, h, 1+2+3+21, 1, 2, 3, 4)
	wantCollect(t, h, []int{2, 4}, 2, api.OK)
	wantThere(t, h, 2+21, 2, 4)
	wantCollect(t, h, []int{4}, 1, api.OK)
	wantThere(t, h, 21, 4)
	wantCollect(t, h, nil, 1, api.OK)
	wantThere(t, h, 0)
}

// P12.2.

// family is a heap of seven objects: 1 names 2 and 3, 2 names 4, 3 names 4 and itself, 4 names 1, 5 names 6, 6 names none, and 7 has the number 5.
func family(t *testing.T) *heap.Heap {
	t.Helper()
	h := objects(t, 30, []bool{ref, no, ref}, []bool{ref}, []bool{no, ref, ref}, []bool{ref}, []bool{no, no, ref}, []bool{ref, ref}, []bool{no})
	for _, l := range [][3]int{{1, 0, 2}, {1, 2, 3}, {2, 0, 4}, {3, 1, 4}, {3, 2, 3}, {4, 0, 1}, {5, 2, 6}, {7, 0, 5}} {
		link(t, h, l[0], l[1], uint64(l[2]))
	}
	return h
}

func TestReach(t *testing.T) {
	h := family(t)
	for _, r := range []struct{ roots, want []int }{
		{nil, nil}, {[]int{0}, nil}, {[]int{0, 0, 0}, nil},
		{[]int{1}, []int{1, 2, 3, 4}}, {[]int{2}, []int{1, 2, 3, 4}}, {[]int{3}, []int{1, 2, 3, 4}}, {[]int{4}, []int{1, 2, 3, 4}},
		{[]int{5}, []int{5, 6}}, {[]int{6}, []int{6}}, {[]int{7}, []int{7}},
		{[]int{7, 6}, []int{6, 7}}, {[]int{6, 0, 5}, []int{5, 6}}, {[]int{7, 7, 7}, []int{7}}, {[]int{5, 4}, []int{1, 2, 3, 4, 5, 6}},
		{[]int{7, 6, 5, 4, 3, 2, 1, 0}, []int{1, 2, 3, 4, 5, 6, 7}},
	} {
		wantReach(t, h, r.roots, r.want, api.OK)
		kept := h.Copy()
		wantCollect(t, kept, r.roots, 7-len(r.want), api.OK)
		wantReach(t, kept, r.want, r.want, api.OK)
		if l := slices.Collect(kept.All()); !slices.Equal(l, r.want) {
			t.Errorf("Collect(%v) leaves %v", r.roots, l)
		}
	}
	wantThere(t, h, 21, 1, 2, 3, 4, 5, 6, 7)
}

// TestReachHangsOnCells: what a cell names is reached as long as it names it.
func TestReachHangsOnCells(t *testing.T) {
	h := family(t)
	link(t, h, 1, 2, 0)
	wantReach(t, h, []int{1}, []int{1, 2, 4}, api.OK)
	link(t, h, 2, 0, 0)
	wantReach(t, h, []int{1}, []int{1, 2}, api.OK)
	link(t, h, 2, 0, 6)
	wantReach(t, h, []int{1}, []int{1, 2, 6}, api.OK)
	link(t, h, 6, 1, 7)
	wantReach(t, h, []int{1}, []int{1, 2, 6, 7}, api.OK)
	link(t, h, 1, 1, 5)
	wantReach(t, h, []int{1}, []int{1, 2, 6, 7}, api.OK)
	wantCollect(t, h, []int{6}, 5, api.OK)
	wantThere(t, h, 5, 6, 7)
}

func TestRootsThatAreNone(t *testing.T) {
	h := family(t)
	wantCollect(t, h, []int{1, 7}, 2, api.OK)
	for _, roots := range [][]int{{5}, {6}, {8}, {-1}, {math.MinInt}, {math.MaxInt}, {65536}, {65537}, {1 << 32}, {1<<32 + 1}, {1, 5}, {5, 1}, {0, 1, 7, 8, 1}, {0, -1}} {
		wantReach(t, h, roots, nil, api.ErrNone)
		wantCollect(t, h, roots, 0, api.ErrNone)
		wantAlloc(t, h, nil, roots, 0, api.ErrNone)
		wantAlloc(t, h, make([]bool, 40), roots, 0, api.ErrNone)
		wantThere(t, h, 4+2+4+2+2, 1, 2, 3, 4, 7)
	}
}

// P12.3.

func TestAllocMakesNoughts(t *testing.T) {
	h := objects(t, 10)
	refs := []bool{ref, no, no, ref, no}
	for round := range 3 {
		wantAlloc(t, h, refs, nil, 1, api.OK)
		wantLen(t, h, 1, 5, api.OK)
		for i, isRef := range refs {
			wantGet(t, h, 1, i, 0, isRef, api.OK)
			// What stands in cells is not seen in the next object of that name.
			link(t, h, 1, i, 1)
		}
		if round < 2 {
			wantCollect(t, h, nil, 1, api.OK)
		}
	}
}

func TestAllocGivesTheLeastName(t *testing.T) {
	h := objects(t, 20, nil, nil, nil, nil, nil, nil)
	wantCollect(t, h, []int{1, 3, 6}, 3, api.OK)
	for _, name := range []int{2, 4, 5, 7, 8} {
		wantAlloc(t, h, nil, nil, name, api.OK)
	}
	wantCollect(t, h, []int{2, 3, 4, 5, 6, 7}, 2, api.OK)
	wantAlloc(t, h, nil, nil, 1, api.OK)
	wantAlloc(t, h, nil, nil, 8, api.OK)
	wantCollect(t, h, []int{8}, 7, api.OK)
	wantAlloc(t, h, nil, nil, 1, api.OK)
	wantCollect(t, h, nil, 2, api.OK)
	wantAlloc(t, h, nil, nil, 1, api.OK)
	wantAlloc(t, h, nil, nil, 2, api.OK)
}

// TestAllocCollectsForWantOfRoomAlone: what is not reached stays as long as there is room.
func TestAllocCollectsForWantOfRoomAlone(t *testing.T) {
	h := objects(t, 10, []bool{no, no}, []bool{no, no})
	wantAlloc(t, h, []bool{no, no, no}, nil, 3, api.OK)
	wantThere(t, h, 10, 1, 2, 3)
	wantAlloc(t, h, nil, []int{2, 3}, 1, api.OK)
	wantThere(t, h, 8, 1, 2, 3)
	wantAlloc(t, h, []bool{no, no}, []int{2}, 1, api.OK)
	wantThere(t, h, 6, 1, 2)
}

func TestAllocThatIsFull(t *testing.T) {
	h := family(t)
	// What is reached and what is asked for are 19 + 12 cells.
	wantAlloc(t, h, make([]bool, 11), []int{1, 5, 0}, 0, api.ErrFull)
	wantThere(t, h, 19, 1, 2, 3, 4, 5, 6)
	wantReach(t, h, []int{5}, []int{5, 6}, api.OK)
	wantAlloc(t, h, make([]bool, 10), []int{1, 5, 0}, 7, api.OK)
	wantThere(t, h, 30, 1, 2, 3, 4, 5, 6, 7)
	wantAlloc(t, h, nil, []int{1, 5, 7}, 0, api.ErrFull)
	wantThere(t, h, 30, 1, 2, 3, 4, 5, 6, 7)
	// What never fits has all go that is not reached.
	wantAlloc(t, h, make([]bool, 30), []int{6}, 0, api.ErrFull)
	wantThere(t, h, 3, 6)
	wantAlloc(t, h, make([]bool, 30), nil, 0, api.ErrFull)
	wantThere(t, h, 0)
	wantAlloc(t, h, make([]bool, 29), nil, 1, api.OK)
	wantThere(t, h, 30, 1)
}

// TestRootsOfAllocAreAsked: also where there is room.
func TestRootsOfAllocAreAsked(t *testing.T) {
	h := objects(t, 10, []bool{ref})
	wantAlloc(t, h, nil, []int{2}, 0, api.ErrNone)
	wantThere(t, h, 2, 1)
	wantAlloc(t, h, nil, []int{1, 0}, 2, api.OK)
	wantThere(t, h, 3, 1, 2)
}

// P12.4.

func TestCells(t *testing.T) {
	h := objects(t, 10, []bool{no, ref}, nil)
	for _, n := range []uint64{0, 1, 2, 3, 65537, 1 << 31, 1 << 32, 1<<63 - 1, 1 << 63, 1<<64 - 1} {
		wantSet(t, h, 1, 0, n, api.OK)
		wantGet(t, h, 1, 0, n, no, api.OK)
	}
	for _, n := range []uint64{2, 1, 0, 1} {
		wantSet(t, h, 1, 1, n, api.OK)
		wantGet(t, h, 1, 1, n, ref, api.OK)
	}
	for _, n := range []uint64{3, 4, 65535, 65536, 65537, 1<<31 + 1, 1 << 32, 1<<32 + 1, 1<<32 + 2, 1 << 63, 1<<63 + 1, 1<<64 - 1} {
		wantSet(t, h, 1, 1, n, api.ErrNone)
		wantGet(t, h, 1, 1, 1, ref, api.OK)
	}
	wantGet(t, h, 1, 0, 1<<64-1, no, api.OK)
	wantLen(t, h, 1, 2, api.OK)
	wantLen(t, h, 2, 0, api.OK)
}

func TestCellsThatAreNot(t *testing.T) {
	h := objects(t, 10, []bool{no, ref}, nil, []bool{no})
	wantCollect(t, h, []int{1, 2}, 1, api.OK)
	for _, o := range []int{0, 3, 4, -1, math.MinInt, math.MaxInt, 1 << 32, 1<<32 + 1} {
		wantLen(t, h, o, 0, api.ErrNone)
		for _, i := range []int{0, 1, -1, 9} {
			wantGet(t, h, o, i, 0, false, api.ErrNone)
			wantSet(t, h, o, i, 0, api.ErrNone)
			wantSet(t, h, o, i, 9, api.ErrNone)
		}
	}
	for _, i := range []int{2, 3, -1, math.MinInt, math.MaxInt, 1 << 32} {
		wantGet(t, h, 1, i, 0, false, api.ErrRange)
		wantSet(t, h, 1, i, 0, api.ErrRange)
		wantSet(t, h, 1, i, 9, api.ErrRange)
	}
	for _, i := range []int{0, 1, -1} {
		wantGet(t, h, 2, i, 0, false, api.ErrRange)
		wantSet(t, h, 2, i, 9, api.ErrRange)
	}
	wantGet(t, h, 1, 0, 0, no, api.OK)
	wantGet(t, h, 1, 1, 0, ref, api.OK)
}

// P12.5.

func TestCopy(t *testing.T) {
	h := family(t)
	wantCollect(t, h, []int{1, 7}, 2, api.OK)
	c := h.Copy()
	for _, x := range []*heap.Heap{h, c} {
		wantThere(t, x, 14, 1, 2, 3, 4, 7)
		wantGet(t, x, 1, 2, 3, ref, api.OK)
		wantGet(t, x, 7, 0, 5, no, api.OK)
	}
	// The budget, and which names are free, are the same; what is done to one is done to it alone.
	wantAlloc(t, c, make([]bool, 16), []int{1, 7}, 0, api.ErrFull)
	wantAlloc(t, c, make([]bool, 15), []int{1, 7}, 5, api.OK)
	wantThere(t, h, 14, 1, 2, 3, 4, 7)
	wantAlloc(t, h, nil, nil, 5, api.OK)
	wantAlloc(t, h, []bool{ref}, nil, 6, api.OK)
	wantThere(t, c, 30, 1, 2, 3, 4, 5, 7)
	link(t, h, 1, 2, 6)
	link(t, c, 7, 0, 8)
	wantGet(t, c, 1, 2, 3, ref, api.OK)
	wantGet(t, h, 7, 0, 5, no, api.OK)
	wantCollect(t, h, nil, 7, api.OK)
	wantThere(t, c, 30, 1, 2, 3, 4, 5, 7)
	d := c.Copy()
	wantCollect(t, c, []int{7}, 5, api.OK)
	wantThere(t, d, 30, 1, 2, 3, 4, 5, 7)
	wantThere(t, c, 2, 7)
	wantThere(t, h, 0)
}

func TestNilHeap(t *testing.T) {
	var h *heap.Heap
	if h.Copy() != nil {
		t.Error("a copy of nil is not nil")
	}
	wantThere(t, h, 0)
	for _, roots := range [][]int{nil, {0}, {1}, {-1}} {
		wantReach(t, h, roots, nil, api.ErrArg)
		wantCollect(t, h, roots, 0, api.ErrArg)
		wantAlloc(t, h, nil, roots, 0, api.ErrArg)
		wantAlloc(t, h, make([]bool, 262147), roots, 0, api.ErrArg)
	}
	for _, o := range []int{0, 1, -1} {
		wantLen(t, h, o, 0, api.ErrArg)
		wantGet(t, h, o, 0, 0, false, api.ErrArg)
		wantSet(t, h, o, 0, 1, api.ErrArg)
	}
}

// TestHeapThatNobodyMade: it is one without a budget.
func TestHeapThatNobodyMade(t *testing.T) {
	h := new(heap.Heap)
	for _, x := range []*heap.Heap{h, h.Copy()} {
		wantAlloc(t, x, nil, nil, 0, api.ErrFull)
		wantAlloc(t, x, nil, []int{1}, 0, api.ErrNone)
		wantReach(t, x, []int{0}, nil, api.OK)
		wantCollect(t, x, nil, 0, api.OK)
		wantLen(t, x, 1, 0, api.ErrNone)
		wantSet(t, x, 1, 0, 0, api.ErrNone)
		wantThere(t, x, 0)
	}
}
