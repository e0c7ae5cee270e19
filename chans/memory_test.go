package chans_test

import (
	"slices"
	"testing"

	"mullion/api"
	"mullion/chans"
)

// R4.

// roomy answers a list in new memory, with two marks in its spare room.
func roomy[T any](list []T, mark T) []T {
	out := append(slices.Clone(list), mark, mark)
	return out[:len(list)]
}

// scribble writes over all of a list, spare room included.
func scribble[T any](list []T, mark T) {
	for i := range list[:cap(list)] {
		list[:cap(list)][i] = mark
	}
}

func TestArgumentsAreLeftAlone(t *testing.T) {
	for _, list := range [][]chans.Case{nil, {get(1), get(0)}, {get(3), get(4), send(4, 1)}, {send(5, 8)}, {get(6)}, {get(9)}} {
		cases := roomy(list, send(-9, 9))
		kept := slices.Clone(cases[:cap(cases)])
		for pick := range 4 {
			h := fair(t)
			_, _ = h.Ready(cases)
			do(h, 1, cases, pick, false)
			do(h, 2, cases, pick, true)
			do(h, 3, []chans.Case{get(1)}, 0, true)
			do(h, 4, []chans.Case{send(1, 7)}, 0, true)
			for c := 1; c <= 6; c++ {
				_, _ = h.Shut(c)
			}
			_ = h.Drop(2)
		}
		if !slices.Equal(kept, cases[:cap(cases)]) {
			t.Errorf("of the cases %v something is changed: %v", list, cases[:cap(cases)])
		}
	}
}

func TestArgumentsAreNotKept(t *testing.T) {
	h := hub(t, 0, 0)
	cases := roomy([]chans.Case{get(2), send(1, 5)}, send(2, 9))
	queue(t, h, 7, cases...)
	c := h.Copy()
	scribble(cases, get(1))
	for _, h := range []*chans.Hub{h, c} {
		wantReady(t, h, []chans.Case{get(1), send(1, 1), get(2), send(2, 1)}, 0, 3)
		act(t, h, 8, get(1), got(0, 5, chans.Served{Who: 7, Case: 1, OK: true}))
	}
}

func TestAnswersShareNothing(t *testing.T) {
	h := hub(t, 0, 4)
	for v := range uint64(3) {
		act(t, h, 1, send(2, v), sent(0))
	}
	queue(t, h, 5, get(1))
	queue(t, h, 6, get(1))
	for range 2 {
		buffer, _ := h.Buffer(2)
		ready, _ := h.Ready([]chans.Case{get(2), send(2, 1)})
		again, _ := h.Buffer(2)
		waiting := h.Waiting()
		scribble(buffer, 99)
		scribble(ready, -9)
		scribble(waiting, -9)
		if !slices.Equal(again, []uint64{0, 1, 2}) {
			t.Errorf("two answers share memory: %v", again)
		}
		wantBuffer(t, h, 2, 0, 1, 2)
		wantWaiting(t, h, 5, 6)
	}
	c := h.Copy()
	_, _, _, served, _ := h.Do(1, []chans.Case{send(1, 8)}, 0, false)
	scribble(served, chans.Served{Who: 9})
	served, _ = h.Shut(1)
	scribble(served, chans.Served{Who: 9})
	wantWaiting(t, c, 5, 6)
	act(t, h, 1, get(2), got(0, 0))
	wantBuffer(t, c, 2, 0, 1, 2)
	wantShut(t, c, 1, api.OK, chans.Served{Who: 5}, chans.Served{Who: 6})
	// What is sent behind a copy goes into no memory that both have.
	act(t, h, 1, send(2, 30), sent(0))
	act(t, c, 1, send(2, 40), sent(0))
	wantBuffer(t, h, 2, 1, 2, 30)
	wantBuffer(t, c, 2, 0, 1, 2, 40)
}

// TestWaitersOfCopies: those who come to a hub and to its copy do not stand in one memory.
func TestWaitersOfCopies(t *testing.T) {
	h := hub(t, 0)
	for who := range 5 {
		queue(t, h, who, get(1))
		c := h.Copy()
		queue(t, h, 10+who, get(0))
		queue(t, c, 20+who, get(0))
		wantMake(t, h, 0, who+2, api.OK)
		wantMake(t, c, 1, who+2, api.OK)
		act(t, h, 30, send(who+2, 1), fault(api.ErrWait))
		act(t, c, 30, send(who+2, 1), sent(0))
		if l := h.Waiting(); l[len(l)-1] != 10+who {
			t.Errorf("%v wait", l)
		}
	}
}

// TestFaultsChangeNothing: R3.
func TestFaultsChangeNothing(t *testing.T) {
	for n, call := range []func(h *chans.Hub) api.Errno{
		func(h *chans.Hub) api.Errno { _, e := h.Make(-1); return e },
		func(h *chans.Hub) api.Errno { _, e := h.Make(1025); return e },
		func(h *chans.Hub) api.Errno { return do(h, 1, []chans.Case{get(3)}, -1, true).e },
		func(h *chans.Hub) api.Errno { return do(h, 50, []chans.Case{get(3)}, 0, true).e },
		func(h *chans.Hub) api.Errno { return do(h, 1, []chans.Case{get(3), get(7)}, 0, true).e },
		func(h *chans.Hub) api.Errno { return do(h, 1, []chans.Case{send(4, 3)}, 0, true).e },
		func(h *chans.Hub) api.Errno { return do(h, 1, []chans.Case{get(1)}, 0, false).e },
		func(h *chans.Hub) api.Errno { _, e := h.Shut(0); return e },
		func(h *chans.Hub) api.Errno { _, e := h.Shut(7); return e },
		func(h *chans.Hub) api.Errno { _, e := h.Shut(4); return e },
		func(h *chans.Hub) api.Errno { _, e := h.Ready([]chans.Case{get(3), get(7)}); return e },
		func(h *chans.Hub) api.Errno { _, e := h.Buffer(0); return e },
		func(h *chans.Hub) api.Errno { return h.Drop(1) },
	} {
		h := fair(t)
		if e := call(h); e == api.OK {
			t.Errorf("call %d: OK", n)
		}
		wantWaiting(t, h, 50, 60)
		for c, vals := range [][]uint64{{}, {22}, {33}, {}, {}, {}} {
			wantBuffer(t, h, c+1, vals...)
		}
		wantReady(t, h, []chans.Case{get(1), send(1, 1), get(2), send(2, 1), get(3), send(3, 1), get(4), send(4, 1), get(5), send(5, 1), get(6), send(6, 1)}, 2, 4, 5, 6, 7, 9, 10)
		wantMake(t, h, 0, 7, api.OK)
	}
}
