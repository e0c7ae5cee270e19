package chans_test

import (
	"math"
	"testing"

	"mullion/api"
	"mullion/chans"
)

// P14.2.

// TestFaultsOfDo: which one is told, with and without waiting. None changes anything.
func TestFaultsOfDo(t *testing.T) {
	wrong := []chans.Case{get(3), send(7, 1)}
	for _, wait := range []bool{false, true} {
		h := fair(t)
		for _, pick := range []int{-1, math.MinInt} {
			wantDo(t, h, 1, []chans.Case{get(3)}, pick, wait, fault(api.ErrArg))
			wantDo(t, h, 50, []chans.Case{get(3)}, pick, wait, fault(api.ErrArg))
			wantDo(t, h, 50, wrong, pick, wait, fault(api.ErrArg))
			wantDo(t, h, 1, nil, pick, wait, fault(api.ErrArg))
		}
		for _, who := range []int{50, 60} {
			wantDo(t, h, who, []chans.Case{get(3)}, 0, wait, fault(api.ErrTwice))
			wantDo(t, h, who, wrong, 5, wait, fault(api.ErrTwice))
			wantDo(t, h, who, nil, 0, wait, fault(api.ErrTwice))
		}
		for _, c := range []int{math.MinInt, -1, 7, math.MaxInt} {
			wantDo(t, h, 1, []chans.Case{get(c)}, 0, wait, fault(api.ErrNone))
			wantDo(t, h, 1, []chans.Case{send(c, 1)}, 1, wait, fault(api.ErrNone))
			wantDo(t, h, 1, []chans.Case{get(3), get(4), send(c, 1)}, 0, wait, fault(api.ErrNone))
			wantDo(t, h, 1, []chans.Case{get(1), get(c), get(0)}, 0, wait, fault(api.ErrNone))
		}
		wantWaiting(t, h, 50, 60)
		wantBuffer(t, h, 3, 33)
		wantDo(t, h, 60, nil, 0, wait, fault(api.ErrTwice))
	}
}

// TestPick: the case that is numbered pick, modulo how many can go on, among those that can.
func TestPick(t *testing.T) {
	cases := []chans.Case{get(1), get(2), send(2, 1), send(3, 5), get(0), get(6)}
	answers := []done{got(1, 22), sent(3), got(5, 66, chans.Served{Who: 60, OK: true})}
	for pick, want := range map[int]int{0: 0, 1: 1, 2: 2, 3: 0, 4: 1, 5: 2, 6: 0, 300: 0, 301: 1, math.MaxInt: math.MaxInt % 3} {
		for _, wait := range []bool{false, true} {
			h := fair(t)
			wantDo(t, h, 1, cases, pick, wait, answers[want])
		}
	}
	// Where one can go on, it does with each pick; where none can, the pick does not matter.
	for _, pick := range []int{0, 1, 2, 7, math.MaxInt} {
		h := fair(t)
		wantDo(t, h, 1, []chans.Case{get(1), get(3)}, pick, true, got(1, 33))
		wantDo(t, h, 1, []chans.Case{get(1), get(3)}, pick, true, fault(api.ErrWait))
		wantWaiting(t, h, 50, 60, 1)
	}
}

// TestSend: to the first who receives, else to the buffer, even if it has room for it.
func TestSend(t *testing.T) {
	for size := range 3 {
		h := hub(t, 0, size)
		queue(t, h, 5, get(1))
		queue(t, h, 6, get(0), get(1), get(2))
		queue(t, h, 7, get(2), get(1))
		act(t, h, 1, send(2, 40), sent(0, chans.Served{Who: 6, Case: 2, Val: 40, OK: true}))
		wantBuffer(t, h, 2)
		wantWaiting(t, h, 5, 7)
		act(t, h, 1, send(2, 41), sent(0, chans.Served{Who: 7, Case: 0, Val: 41, OK: true}))
		wantBuffer(t, h, 2)
		wantWaiting(t, h, 5)
		for i := range size {
			act(t, h, 1, send(2, uint64(42+i)), sent(0))
		}
		wantBuffer(t, h, 2, []uint64{42, 43}[:size]...)
		act(t, h, 1, send(2, 44), fault(api.ErrWait))
		wantWaiting(t, h, 5)
	}
}

// TestReceive: the buffer's first value, behind which the first sender's comes to its end; of an empty one that sender's.
func TestReceive(t *testing.T) {
	for size := range 3 {
		h := hub(t, 0, size)
		for i := range size {
			act(t, h, 1, send(2, uint64(30+i)), sent(0))
		}
		queue(t, h, 5, send(1, 50))
		queue(t, h, 6, send(0, 60), send(1, 61), send(2, uint64(30+size)))
		queue(t, h, 7, send(2, uint64(31+size)), send(1, 71))
		act(t, h, 1, get(2), got(0, 30, chans.Served{Who: 6, Case: 2, OK: true}))
		wantBuffer(t, h, 2, []uint64{31, 32}[:size]...)
		wantWaiting(t, h, 5, 7)
		act(t, h, 1, get(2), got(0, 31, chans.Served{Who: 7, Case: 0, OK: true}))
		wantBuffer(t, h, 2, []uint64{32, 33}[:size]...)
		wantWaiting(t, h, 5)
		for i := range size {
			act(t, h, 1, get(2), got(0, uint64(32+i)))
		}
		act(t, h, 1, get(2), fault(api.ErrWait))
		act(t, h, 1, get(1), got(0, 50, chans.Served{Who: 5, OK: true}))
	}
}

// TestShutChannel: what goes on there, whether its buffer has values or room.
func TestShutChannel(t *testing.T) {
	for size := range 4 {
		for values := range size + 1 {
			h := hub(t, size)
			for i := range values {
				act(t, h, 1, send(1, uint64(i+1)), sent(0))
			}
			wantShut(t, h, 1, api.OK)
			for i := range values {
				wantDo(t, h, 1, []chans.Case{send(1, 9)}, 0, true, fault(api.ErrShut))
				act(t, h, 1, get(1), got(0, uint64(i+1)))
			}
			for range 3 {
				wantDo(t, h, 1, []chans.Case{get(1)}, 0, true, over(0))
				act(t, h, 1, send(1, 9), fault(api.ErrShut))
			}
			wantBuffer(t, h, 1)
			wantWaiting(t, h)
		}
	}
}

// TestErrShut: at is the case's number, which pick chose, nothing else is told, and nothing is changed.
func TestErrShut(t *testing.T) {
	cases := []chans.Case{get(1), get(3), send(4, 8), get(4), send(4, 9)}
	answers := []done{got(1, 33), {at: 2, e: api.ErrShut}, over(3), {at: 4, e: api.ErrShut}}
	for pick := range 12 {
		for _, wait := range []bool{false, true} {
			h := fair(t)
			wantDo(t, h, 1, cases, pick, wait, answers[pick%4])
			wantWaiting(t, h, 50, 60)
			wantBuffer(t, h, 4)
			if pick%4 > 0 {
				wantBuffer(t, h, 3, 33)
			}
		}
	}
}

func TestWaitOrNot(t *testing.T) {
	h := fair(t)
	for _, cases := range [][]chans.Case{nil, {}, {get(0)}, {send(0, 1), get(0)}, {get(1)}, {send(1, 1)}, {send(2, 5), get(5), get(1), get(0)}} {
		wantDo(t, h, 1, cases, 3, false, fault(api.ErrWait))
		wantWaiting(t, h, 50, 60)
		queue(t, h, 1, cases...)
		wantWaiting(t, h, 50, 60, 1)
		wantDo(t, h, 1, cases, 3, false, fault(api.ErrTwice))
		wantDrop(t, h, 1, api.OK)
	}
}

// TestNobodysChannel: those who wait there do not meet, nor does anybody go on there.
func TestNobodysChannel(t *testing.T) {
	h := hub(t, 1)
	queue(t, h, 1, get(0))
	queue(t, h, 2, send(0, 1))
	queue(t, h, 3, get(0), send(0, 1), get(1))
	act(t, h, 4, get(0), fault(api.ErrWait))
	act(t, h, 4, send(0, 1), fault(api.ErrWait))
	wantShut(t, h, 0, api.ErrArg)
	act(t, h, 4, send(1, 5), sent(0, chans.Served{Who: 3, Case: 2, Val: 5, OK: true}))
	wantWaiting(t, h, 1, 2)
	wantNoBuffer(t, h, 0)
}

// TestBothWays: a waiter that sends and receives on one channel serves others both ways, but not itself.
func TestBothWays(t *testing.T) {
	both := []chans.Case{send(1, 11), get(1), send(1, 12), get(1)}
	h := hub(t, 0)
	queue(t, h, 1, both...)
	wantReady(t, h, both, 0, 1, 2, 3)
	h2 := h.Copy()
	act(t, h, 2, get(1), got(0, 11, chans.Served{Who: 1, Case: 0, OK: true}))
	act(t, h2, 2, send(1, 22), sent(0, chans.Served{Who: 1, Case: 1, Val: 22, OK: true}))
	wantWaiting(t, h)
	wantWaiting(t, h2)
}

// TestServedIsGone: one that was served by a case is not there any more for its others, nor is what it sent.
func TestServedIsGone(t *testing.T) {
	h := hub(t, 0, 0, 1)
	queue(t, h, 1, get(1), send(2, 21), get(3))
	act(t, h, 2, get(2), got(0, 21, chans.Served{Who: 1, Case: 1, OK: true}))
	act(t, h, 2, get(2), fault(api.ErrWait))
	act(t, h, 2, send(1, 5), fault(api.ErrWait))
	act(t, h, 2, send(3, 5), sent(0))
	wantBuffer(t, h, 3, 5)
	wantShut(t, h, 1, api.OK)
	act(t, h, 1, get(3), got(0, 5))
	wantWaiting(t, h)
}

// TestVals: words at their ends go through a buffer and past it; what stands beside a receipt goes nowhere.
func TestVals(t *testing.T) {
	for _, v := range []uint64{0, 1, 1 << 63, math.MaxUint64} {
		h := hub(t, 1, 0)
		act(t, h, 1, send(1, v), sent(0))
		wantBuffer(t, h, 1, v)
		receipt := chans.Case{Chan: 1, Val: 77}
		act(t, h, 1, receipt, got(0, v))
		queue(t, h, 2, chans.Case{Chan: 2, Val: 78})
		act(t, h, 1, send(2, v), sent(0, chans.Served{Who: 2, Val: v, OK: true}))
		queue(t, h, 2, send(2, v))
		act(t, h, 1, chans.Case{Chan: 2, Val: 79}, got(0, v, chans.Served{Who: 2, OK: true}))
		queue(t, h, 2, chans.Case{Chan: 2, Val: 80})
		wantShut(t, h, 2, api.OK, chans.Served{Who: 2})
		act(t, h, 1, chans.Case{Chan: 2, Val: 81}, over(0))
	}
}

// P14.3.

func TestShut(t *testing.T) {
	h := hub(t, 0, 1, 0)
	act(t, h, 1, send(2, 9), sent(0))
	queue(t, h, 1, get(0), send(2, 8))
	queue(t, h, 2, get(1))
	queue(t, h, 3, get(1), send(2, 7), send(2, 6))
	queue(t, h, 4, send(3, 5), send(0, 4), get(1), send(2, 3))
	queue(t, h, 5)
	queue(t, h, 6, send(2, 2), get(1))
	for _, c := range []int{math.MinInt, -1, 4, 5, math.MaxInt} {
		wantShut(t, h, c, api.ErrNone)
	}
	wantShut(t, h, 0, api.ErrArg)
	wantWaiting(t, h, 1, 2, 3, 4, 5, 6)
	wantShut(t, h, 2, api.OK, chans.Served{Who: 1, Case: 1}, chans.Served{Who: 3, Case: 1}, chans.Served{Who: 4, Case: 3}, chans.Served{Who: 6})
	wantWaiting(t, h, 2, 5)
	wantBuffer(t, h, 2, 9)
	wantShut(t, h, 2, api.ErrShut)
	wantShut(t, h, 0, api.ErrArg)
	wantShut(t, h, 3, api.OK)
	wantShut(t, h, 1, api.OK, chans.Served{Who: 2})
	wantWaiting(t, h, 5)
	for c := 1; c <= 3; c++ {
		wantShut(t, h, c, api.ErrShut)
	}
	act(t, h, 1, get(2), got(0, 9))
	act(t, h, 1, get(2), over(0))
}

// TestShutByFirstCase: of those on the channel, whichever way they go.
func TestShutByFirstCase(t *testing.T) {
	for n, cases := range [][]chans.Case{{send(2, 5), get(2)}, {get(2), send(2, 5)}, {get(1), get(2), get(2)}, {send(1, 4), send(0, 4), send(2, 5), send(2, 6)}} {
		h := hub(t, 0, 0)
		queue(t, h, 8, cases...)
		wantShut(t, h, 2, api.OK, chans.Served{Who: 8, Case: []int{0, 0, 1, 2}[n]})
		wantWaiting(t, h)
	}
}

func TestDrop(t *testing.T) {
	h := hub(t, 0)
	wantDrop(t, h, 1, api.ErrNone)
	for who := -2; who <= 4; who++ {
		queue(t, h, who, send(1, uint64(100+who)))
	}
	for _, who := range []int{math.MinInt, -3, 5, math.MaxInt} {
		wantDrop(t, h, who, api.ErrNone)
	}
	wantDrop(t, h, -2, api.OK)
	wantDrop(t, h, -2, api.ErrNone)
	wantDrop(t, h, 4, api.OK)
	wantDrop(t, h, 1, api.OK)
	wantWaiting(t, h, -1, 0, 2, 3)
	act(t, h, 9, get(1), got(0, 99, chans.Served{Who: -1, OK: true}))
	wantDrop(t, h, -1, api.ErrNone)
	wantDrop(t, h, 0, api.OK)
	act(t, h, 9, get(1), got(0, 102, chans.Served{Who: 2, OK: true}))
	queue(t, h, 0, send(1, 7))
	wantWaiting(t, h, 3, 0)
	wantShut(t, h, 1, api.OK, chans.Served{Who: 3}, chans.Served{Who: 0})
	wantDrop(t, h, 3, api.ErrNone)
}
