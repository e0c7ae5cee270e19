package chans_test

import (
	"math"
	"slices"
	"testing"

	"mullion/api"
	"mullion/chans"
)

func send(c int, v uint64) chans.Case { return chans.Case{Send: true, Chan: c, Val: v} }

func get(c int) chans.Case { return chans.Case{Chan: c} }

// done is what a Do answers.
type done struct {
	at     int
	val    uint64
	ok     bool
	served []chans.Served
	e      api.Errno
}

// sent is what comes of the case at, a sending.
func sent(at int, served ...chans.Served) done { return done{at, 0, true, served, api.OK} }

// got is what comes of the case at, a receipt of a sender's value.
func got(at int, v uint64, served ...chans.Served) done { return done{at, v, true, served, api.OK} }

// over is what comes of the case at, a receipt by a channel that is shut and has no value left.
func over(at int) done { return done{at: at} }

func fault(e api.Errno) done { return done{e: e} }

func do(h *chans.Hub, who int, cases []chans.Case, pick int, wait bool) done {
	at, val, ok, served, e := h.Do(who, cases, pick, wait)
	return done{at, val, ok, served, e}
}

func (d done) is(other done) bool {
	return d.at == other.at && d.val == other.val && d.ok == other.ok && d.e == other.e && slices.Equal(d.served, other.served)
}

// hub makes a hub with one channel for each size.
func hub(t *testing.T, sizes ...int) *chans.Hub {
	t.Helper()
	h := chans.New()
	for i, size := range sizes {
		wantMake(t, h, size, i+1, api.OK)
	}
	return h
}

func wantMake(t *testing.T, h *chans.Hub, size, c int, e api.Errno) {
	t.Helper()
	if gotC, gotE := h.Make(size); gotC != c || gotE != e {
		t.Errorf("Make(%d): %d, %d, not %d, %d", size, gotC, gotE, c, e)
	}
}

func wantDo(t *testing.T, h *chans.Hub, who int, cases []chans.Case, pick int, wait bool, want done) {
	t.Helper()
	if d := do(h, who, cases, pick, wait); !d.is(want) {
		t.Errorf("Do(%d, %v, %d, %t): %v, not %v", who, cases, pick, wait, d, want)
	}
}

// act is a Do with pick 0 that may not wait.
func act(t *testing.T, h *chans.Hub, who int, c chans.Case, want done) {
	t.Helper()
	wantDo(t, h, who, []chans.Case{c}, 0, false, want)
}

// queue has who wait for one of the cases.
func queue(t *testing.T, h *chans.Hub, who int, cases ...chans.Case) {
	t.Helper()
	before := h.Waiting()
	wantDo(t, h, who, cases, 0, true, fault(api.ErrWait))
	wantWaiting(t, h, append(before, who)...)
}

func wantWaiting(t *testing.T, h *chans.Hub, who ...int) {
	t.Helper()
	if l := h.Waiting(); !slices.Equal(l, who) {
		t.Errorf("%v wait, not %v", l, who)
	}
}

func wantBuffer(t *testing.T, h *chans.Hub, c int, vals ...uint64) {
	t.Helper()
	if l, e := h.Buffer(c); !slices.Equal(l, vals) || e != api.OK {
		t.Errorf("Buffer(%d): %v, %d, not %v", c, l, e, vals)
	}
}

func wantNoBuffer(t *testing.T, h *chans.Hub, list ...int) {
	t.Helper()
	for _, c := range list {
		if l, e := h.Buffer(c); len(l) > 0 || e != api.ErrNone {
			t.Errorf("Buffer(%d): %v, %d", c, l, e)
		}
	}
}

func wantReady(t *testing.T, h *chans.Hub, cases []chans.Case, numbers ...int) {
	t.Helper()
	if l, e := h.Ready(cases); !slices.Equal(l, numbers) || e != api.OK {
		t.Errorf("Ready(%v): %v, %d, not %v", cases, l, e, numbers)
	}
}

func wantShut(t *testing.T, h *chans.Hub, c int, e api.Errno, served ...chans.Served) {
	t.Helper()
	if l, gotE := h.Shut(c); !slices.Equal(l, served) || gotE != e {
		t.Errorf("Shut(%d): %v, %d, not %v, %d", c, l, gotE, served, e)
	}
}

func wantDrop(t *testing.T, h *chans.Hub, who int, e api.Errno) {
	t.Helper()
	if gotE := h.Drop(who); gotE != e {
		t.Errorf("Drop(%d): %d, not %d", who, gotE, e)
	}
}

func TestExample(t *testing.T) {
	h := hub(t, 1)
	wantDo(t, h, 7, []chans.Case{send(1, 5)}, 0, false, sent(0))
	wantDo(t, h, 8, []chans.Case{send(1, 6)}, 0, true, fault(api.ErrWait))
	wantDo(t, h, 9, []chans.Case{get(1)}, 0, false, got(0, 5, chans.Served{Who: 8, OK: true}))
	wantShut(t, h, 1, api.OK)
	act(t, h, 9, get(1), got(0, 6))
	act(t, h, 9, get(1), over(0))
	act(t, h, 9, send(1, 7), fault(api.ErrShut))
}

// P14.1.

func TestMake(t *testing.T) {
	h := chans.New()
	wantNoBuffer(t, h, -1, 0, 1, 2)
	for i, size := range []int{0, 1, 1023, 1024, 2, 0} {
		for _, wrong := range []int{math.MinInt, -1, 1025, math.MaxInt} {
			wantMake(t, h, wrong, 0, api.ErrArg)
		}
		wantNoBuffer(t, h, i+1)
		wantMake(t, h, size, i+1, api.OK)
		wantBuffer(t, h, i+1)
		wantNoBuffer(t, h, math.MinInt, -1, 0, i+2, math.MaxInt)
	}
	wantWaiting(t, h)
}

// TestSizes: a buffer takes as many values as its size says, and no more.
func TestSizes(t *testing.T) {
	for _, size := range []int{0, 1, 2, 3, 1023, 1024} {
		h := hub(t, 0, size, 5)
		var want []uint64
		for i := range size {
			want = append(want, uint64(100+i))
			wantReady(t, h, []chans.Case{send(2, 1)}, 0)
			act(t, h, i, send(2, uint64(100+i)), sent(0))
		}
		wantBuffer(t, h, 2, want...)
		wantBuffer(t, h, 3)
		wantReady(t, h, []chans.Case{send(2, 1)})
		act(t, h, 1, send(2, 9), fault(api.ErrWait))
		wantBuffer(t, h, 2, want...)
		for i, v := range want {
			act(t, h, 1, get(2), got(0, v))
			wantBuffer(t, h, 2, want[i+1:]...)
		}
		act(t, h, 1, get(2), fault(api.ErrWait))
	}
}

func TestManyChannels(t *testing.T) {
	const many = 70000
	h := chans.New()
	for c := 1; c <= many; c++ {
		if n, e := h.Make(1024); n != c || e != api.OK {
			t.Fatalf("Make: %d, %d, not %d", n, e, c)
		}
	}
	act(t, h, 1, send(many, 3), sent(0))
	queue(t, h, 2, get(many-1), get(1))
	wantBuffer(t, h, many, 3)
	wantBuffer(t, h, 1)
	act(t, h, 1, send(1, 4), sent(0, chans.Served{Who: 2, Case: 1, Val: 4, OK: true}))
	wantNoBuffer(t, h, 0, many+1)
}

func TestReadyOfOne(t *testing.T) {
	for n, row := range []struct {
		size  int
		state func(h *chans.Hub)
		sends bool // whether a sending can go on
		gets  bool
	}{
		{0, func(*chans.Hub) {}, false, false},
		{1, func(*chans.Hub) {}, true, false},
		{0, func(h *chans.Hub) { queue(t, h, 1, get(1)) }, true, false},
		{0, func(h *chans.Hub) { queue(t, h, 1, send(1, 2)) }, false, true},
		{0, func(h *chans.Hub) { queue(t, h, 1, get(1), send(1, 2)) }, true, true},
		{0, func(h *chans.Hub) { queue(t, h, 1, get(0), get(2)) }, false, false},
		{0, func(h *chans.Hub) { queue(t, h, 1, send(2, 1), send(0, 1)) }, false, false},
		{0, func(h *chans.Hub) { queue(t, h, 1, get(1)); _ = h.Drop(1) }, false, false},
		{2, func(h *chans.Hub) { queue(t, h, 1, get(1)) }, true, false},
		{2, func(h *chans.Hub) { act(t, h, 1, send(1, 2), sent(0)) }, true, true},
		{1, func(h *chans.Hub) { act(t, h, 1, send(1, 2), sent(0)) }, false, true},
		{1, func(h *chans.Hub) { act(t, h, 1, send(1, 2), sent(0)); queue(t, h, 1, send(1, 2)) }, false, true},
		{0, func(h *chans.Hub) { _, _ = h.Shut(1) }, true, true},
		{2, func(h *chans.Hub) { _, _ = h.Shut(1) }, true, true},
		{1, func(h *chans.Hub) { act(t, h, 1, send(1, 2), sent(0)); _, _ = h.Shut(1) }, true, true},
		{0, func(h *chans.Hub) { _, _ = h.Shut(2) }, false, false},
	} {
		h := hub(t, row.size, 0)
		row.state(h)
		waiting := h.Waiting()
		if l, e := h.Ready([]chans.Case{send(1, 0)}); e != api.OK || len(l) == 1 != row.sends {
			t.Errorf("row %d: sendings that can go on: %v, %d", n, l, e)
		}
		if l, e := h.Ready([]chans.Case{get(1)}); e != api.OK || len(l) == 1 != row.gets {
			t.Errorf("row %d: receipts that can go on: %v, %d", n, l, e)
		}
		wantReady(t, h, []chans.Case{get(0), send(0, 1)})
		wantWaiting(t, h, waiting...)
	}
}

// fair is a hub with channels that are: 1 empty without a buffer, 2 full, 3 neither empty nor full, 4 shut, 5 one where 50 receives, 6 one where 60 sends 66 or 67.
func fair(t *testing.T) *chans.Hub {
	t.Helper()
	h := hub(t, 0, 1, 2, 0, 0, 0)
	act(t, h, 1, send(2, 22), sent(0))
	act(t, h, 1, send(3, 33), sent(0))
	wantShut(t, h, 4, api.OK)
	queue(t, h, 50, get(0), get(5))
	queue(t, h, 60, send(6, 66), send(6, 67))
	return h
}

func TestReadyOfMany(t *testing.T) {
	h := fair(t)
	wantReady(t, h, nil)
	wantReady(t, h, []chans.Case{get(0), get(1), get(2), get(3), get(4), get(5), get(6)}, 2, 3, 4, 6)
	wantReady(t, h, []chans.Case{send(0, 1), send(1, 1), send(2, 1), send(3, 1), send(4, 1), send(5, 1), send(6, 1)}, 3, 4, 5)
	wantReady(t, h, []chans.Case{get(6), send(5, 1), get(1), get(6), get(0), get(6)}, 0, 1, 3, 5)
	for _, c := range []int{math.MinInt, -1, 7, 8, math.MaxInt} {
		for _, wrong := range []chans.Case{get(c), send(c, 1)} {
			for _, cases := range [][]chans.Case{{wrong}, {wrong, get(3)}, {get(3), wrong}, {get(0), wrong}} {
				if l, e := h.Ready(cases); len(l) > 0 || e != api.ErrNone {
					t.Errorf("Ready(%v): %v, %d", cases, l, e)
				}
			}
		}
	}
	wantWaiting(t, h, 50, 60)
	wantBuffer(t, h, 3, 33)
}

func TestWaiting(t *testing.T) {
	h := hub(t, 0, 0)
	list := []int{5, -3, 0, math.MaxInt, 1, math.MinInt, 4}
	for i, who := range list {
		queue(t, h, who, []chans.Case{get(1), get(2), get(0)}[i%3])
	}
	wantWaiting(t, h, list...)
	act(t, h, 9, send(2, 7), sent(0, chans.Served{Who: -3, Val: 7, OK: true}))
	wantWaiting(t, h, 5, 0, math.MaxInt, 1, math.MinInt, 4)
	queue(t, h, -3, get(2))
	wantWaiting(t, h, 5, 0, math.MaxInt, 1, math.MinInt, 4, -3)
}

// P14.4, and R5.

func TestCopy(t *testing.T) {
	h := fair(t)
	c := h.Copy()
	// The copy goes on by itself.
	act(t, c, 2, get(6), got(0, 66, chans.Served{Who: 60, OK: true}))
	act(t, c, 2, send(3, 34), sent(0))
	wantShut(t, c, 5, api.OK, chans.Served{Who: 50, Case: 1})
	wantMake(t, c, 3, 7, api.OK)
	queue(t, c, 2, get(7))
	wantWaiting(t, c, 2)
	wantWaiting(t, h, 50, 60)
	wantBuffer(t, h, 3, 33)
	wantNoBuffer(t, h, 7)
	// What it was copied from does, too.
	act(t, h, 3, send(3, 35), sent(0))
	act(t, h, 3, get(3), got(0, 33))
	act(t, h, 3, get(6), got(0, 66, chans.Served{Who: 60, OK: true}))
	act(t, h, 3, send(5, 5), sent(0, chans.Served{Who: 50, Case: 1, Val: 5, OK: true}))
	wantShut(t, h, 1, api.OK)
	wantBuffer(t, c, 3, 33, 34)
	wantBuffer(t, h, 3, 35)
	wantReady(t, c, []chans.Case{get(1), send(7, 1), get(5), get(4)}, 1, 2, 3)
	wantReady(t, h, []chans.Case{get(1), get(5), send(2, 1)}, 0)
	wantWaiting(t, c, 2)
	wantWaiting(t, h)
	wantShut(t, c.Copy().Copy(), 7, api.OK, chans.Served{Who: 2})
}

func TestNothing(t *testing.T) {
	var h *chans.Hub
	if h.Copy() != nil {
		t.Error("the copy of nil is not nil")
	}
	for _, size := range []int{-1, 0, 5} {
		wantMake(t, h, size, 0, api.ErrArg)
	}
	for _, cases := range [][]chans.Case{nil, {get(0)}, {send(1, 2)}, {get(-1)}} {
		for _, wait := range []bool{false, true} {
			wantDo(t, h, 1, cases, 0, wait, fault(api.ErrArg))
			wantDo(t, h, 1, cases, -1, wait, fault(api.ErrArg))
		}
		if l, e := h.Ready(cases); len(l) > 0 || e != api.ErrArg {
			t.Errorf("Ready(%v): %v, %d", cases, l, e)
		}
	}
	for _, c := range []int{-1, 0, 1} {
		wantShut(t, h, c, api.ErrArg)
		wantDrop(t, h, c, api.ErrArg)
		if l, e := h.Buffer(c); len(l) > 0 || e != api.ErrArg {
			t.Errorf("Buffer(%d): %v, %d", c, l, e)
		}
	}
	wantWaiting(t, h)
}

// TestNewHubs: they have nothing, and nothing of one another.
func TestNewHubs(t *testing.T) {
	if chans.New() == nil {
		t.Fatal("New is nil")
	}
	for _, h := range []*chans.Hub{chans.New(), chans.New(), new(chans.Hub), chans.New().Copy()} {
		wantWaiting(t, h)
		wantNoBuffer(t, h, -1, 0, 1)
		wantShut(t, h, 1, api.ErrNone)
		act(t, h, 3, get(1), fault(api.ErrNone))
		queue(t, h, 3, get(0))
		wantMake(t, h, 1, 1, api.OK)
		act(t, h, 4, send(1, 8), sent(0))
	}
}
