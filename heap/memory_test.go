package heap_test

import (
	"slices"
	"testing"

	"mullion/api"
	"mullion/heap"
)

// roomy answers a list in new memory, with two marks in its spare room.
func roomy[T any](list []T, mark T) []T {
	out := append(slices.Clone(list), mark, mark)
	return out[:len(list)]
}

func TestArgumentsAreLeftAlone(t *testing.T) {
	for _, list := range [][]int{{}, {0}, {7, 5, 0, 7, 1}, {6, 5, 4, 3}, {1, 9}} {
		h := family(t)
		roots := roomy(list, -7)
		kept := slices.Clone(roots[:cap(roots)])
		refs := roomy([]bool{no, ref, ref}, true)
		keptRefs := slices.Clone(refs[:cap(refs)])
		_, _ = h.Reach(roots)
		_, _ = h.Alloc(refs, roots)
		_, _ = h.Collect(roots)
		_, _ = h.Alloc(refs, roots)
		_, _ = h.Alloc(make([]bool, 25), roots)
		if !slices.Equal(kept, roots[:cap(roots)]) || !slices.Equal(keptRefs, refs[:cap(refs)]) {
			t.Errorf("of the roots %v something is changed: %v, %v", list, roots[:cap(roots)], refs[:cap(refs)])
		}
	}
}

func TestArgumentsAreNotKept(t *testing.T) {
	h := objects(t, 9)
	refs := roomy([]bool{no, ref}, false)
	wantAlloc(t, h, refs, nil, 1, api.OK)
	roots := []int{1}
	wantAlloc(t, h, refs, roots, 2, api.OK)
	refs[0], refs[1], roots[0] = true, false, 2
	for o := 1; o <= 2; o++ {
		wantLen(t, h, o, 2, api.OK)
		wantGet(t, h, o, 0, 0, no, api.OK)
		wantGet(t, h, o, 1, 0, ref, api.OK)
	}
	link(t, h, 1, 0, 5)
	if !refs[0] || refs[1] {
		t.Error("refs are changed by a Set")
	}
	wantCollect(t, h, []int{1}, 1, api.OK)
	wantThere(t, h, 3, 1)
}

func TestAnswersShareNothing(t *testing.T) {
	h := family(t)
	roots := []int{5, 6}
	a, _ := h.Reach(roots)
	b, _ := h.Reach(roots)
	for i := range a[:cap(a)] {
		a[:cap(a)][i] = -9
	}
	if !slices.Equal(b, []int{5, 6}) || !slices.Equal(roots, []int{5, 6}) {
		t.Errorf("an answer shares memory: %v, %v", b, roots)
	}
	wantReach(t, h, roots, []int{5, 6}, api.OK)
	wantThere(t, h, 21, 1, 2, 3, 4, 5, 6, 7)
}

// TestFaultsChangeNothing: a call that answers an error leaves all as it was, but for what goes for want of room.
func TestFaultsChangeNothing(t *testing.T) {
	for n, call := range []func(h *heap.Heap) api.Errno{
		func(h *heap.Heap) api.Errno { _, e := h.Alloc(make([]bool, 262147), []int{1}); return e },
		func(h *heap.Heap) api.Errno { _, e := h.Alloc(make([]bool, 12), []int{1, 8}); return e },
		func(h *heap.Heap) api.Errno { _, e := h.Alloc(nil, []int{8}); return e },
		func(h *heap.Heap) api.Errno { _, e := h.Collect([]int{1, 8}); return e },
		func(h *heap.Heap) api.Errno { _, e := h.Reach([]int{1, 8}); return e },
		func(h *heap.Heap) api.Errno { return h.Set(1, 0, 8) },
		func(h *heap.Heap) api.Errno { return h.Set(1, 3, 8) },
		func(h *heap.Heap) api.Errno { return h.Set(8, 0, 8) },
		func(h *heap.Heap) api.Errno { _, _, e := h.Get(1, 3); return e },
		func(h *heap.Heap) api.Errno { _, e := h.Len(8); return e },
	} {
		h := family(t)
		if e := call(h); e == api.OK {
			t.Errorf("call %d: OK", n)
		}
		wantThere(t, h, 21, 1, 2, 3, 4, 5, 6, 7)
		wantGet(t, h, 1, 0, 2, ref, api.OK)
		wantReach(t, h, []int{2, 5}, []int{1, 2, 3, 4, 5, 6}, api.OK)
		wantAlloc(t, h, make([]bool, 8), nil, 8, api.OK)
	}
}

// R6.

func TestAllTellsWhatThereWas(t *testing.T) {
	h := family(t)
	seven, none := h.All(), objects(t, 3).All()
	wantCollect(t, h, []int{7, 5}, 4, api.OK)
	three := h.All()
	wantAlloc(t, h, nil, nil, 1, api.OK)
	wantCollect(t, h, nil, 4, api.OK)
	for range 2 {
		for n, got := range [][]int{slices.Collect(seven), slices.Collect(three), slices.Collect(none), slices.Collect(h.All())} {
			want := [][]int{{1, 2, 3, 4, 5, 6, 7}, {5, 6, 7}, nil, nil}[n]
			if !slices.Equal(got, want) {
				t.Errorf("%v are told, not %v", got, want)
			}
		}
	}
}

func TestAllWhileItIsRangedOver(t *testing.T) {
	h := family(t)
	var told []int
	for o := range h.All() {
		told = append(told, o)
		_, _ = h.Collect([]int{7})
		_, _ = h.Alloc(nil, nil)
		if o == 2 {
			for p := range h.All() {
				told = append(told, 10*p)
			}
		}
	}
	// Each turn leaves 7, and a new object 1.
	if want := []int{1, 2, 10, 70, 3, 4, 5, 6, 7}; !slices.Equal(told, want) {
		t.Errorf("%v are told, not %v", told, want)
	}
}

func TestAllStopsAtOnce(t *testing.T) {
	h := family(t)
	all := h.All()
	for most := 1; most <= 8; most++ {
		var told []int
		all(func(o int) bool {
			told = append(told, o)
			return len(told) < most
		})
		if !slices.Equal(told, []int{1, 2, 3, 4, 5, 6, 7}[:min(most, 7)]) {
			t.Errorf("%v are told till the end of %d", told, most)
		}
	}
}

func TestAllIsNeverNil(t *testing.T) {
	var none *heap.Heap
	for _, h := range []*heap.Heap{none, new(heap.Heap), objects(t, 0), family(t)} {
		if h.All() == nil {
			t.Error("All is nil")
		}
	}
}
