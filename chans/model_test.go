package chans_test

import (
	"fmt"
	"math/rand"
	"slices"
	"testing"

	"mullion/api"
	"mullion/chans"
)

// The model keeps all cases of all waiters in one list of offers, in the order in which the waiters came and then in that of their cases: the first waiter that does something, and its first case that does, is the first offer of that kind. It goes by the chapter's sentences, one by one.

type offer struct {
	who, number int
	c           chans.Case
}

type modelChannel struct {
	size   int
	buffer []uint64
	isShut bool
}

type model struct {
	list   []modelChannel // there is none at 0
	who    []int
	offers []offer
}

func newModel() *model { return &model{list: make([]modelChannel, 1)} }

func (m *model) has(c int) bool { return 0 < c && c < len(m.list) }

func (m *model) copy() *model {
	out := &model{slices.Clone(m.list), slices.Clone(m.who), slices.Clone(m.offers)}
	for i := range out.list {
		out.list[i].buffer = slices.Clone(out.list[i].buffer)
	}
	return out
}

func (m *model) make(size int) (int, api.Errno) {
	if size < 0 || size > 1024 {
		return 0, api.ErrArg
	}
	m.list = append(m.list, modelChannel{size: size})
	return len(m.list) - 1, api.OK
}

// find answers the first offer to send on c, or to receive there.
func (m *model) find(c int, send bool) (offer, bool) {
	for _, o := range m.offers {
		if o.c.Chan == c && o.c.Send == send {
			return o, true
		}
	}
	return offer{}, false
}

func (m *model) drop(who int) api.Errno {
	if !slices.Contains(m.who, who) {
		return api.ErrNone
	}
	m.who = slices.DeleteFunc(m.who, func(w int) bool { return w == who })
	m.offers = slices.DeleteFunc(m.offers, func(o offer) bool { return o.who == who })
	return api.OK
}

func (m *model) ready(cases []chans.Case) ([]int, api.Errno) {
	var list []int
	for n, c := range cases {
		if c.Chan != 0 && !m.has(c.Chan) {
			return nil, api.ErrNone
		}
		ch := m.list[c.Chan]
		_, isMet := m.find(c.Chan, !c.Send)
		if c.Chan != 0 && (isMet || ch.isShut || !c.Send && len(ch.buffer) != 0 || c.Send && len(ch.buffer) != ch.size) {
			list = append(list, n)
		}
	}
	return list, api.OK
}

func (m *model) do(who int, cases []chans.Case, pick int, wait bool) done {
	list, e := m.ready(cases)
	switch {
	case pick < 0:
		return fault(api.ErrArg)
	case slices.Contains(m.who, who):
		return fault(api.ErrTwice)
	case e != api.OK:
		return fault(e)
	case len(list) == 0 && wait:
		m.who = append(m.who, who)
		for n, c := range cases {
			m.offers = append(m.offers, offer{who, n, c})
		}
		return fault(api.ErrWait)
	case len(list) == 0:
		return fault(api.ErrWait)
	}
	at := list[pick%len(list)]
	if cases[at].Send {
		return m.send(at, cases[at])
	}
	return m.receive(at, cases[at])
}

func (m *model) send(at int, c chans.Case) done {
	ch := &m.list[c.Chan]
	if ch.isShut {
		return done{at: at, e: api.ErrShut}
	}
	if o, isMet := m.find(c.Chan, false); isMet {
		m.drop(o.who)
		return sent(at, chans.Served{Who: o.who, Case: o.number, Val: c.Val, OK: true})
	}
	ch.buffer = append(ch.buffer, c.Val)
	return sent(at)
}

func (m *model) receive(at int, c chans.Case) done {
	ch := &m.list[c.Chan]
	o, isMet := m.find(c.Chan, true)
	var served []chans.Served
	if isMet {
		m.drop(o.who)
		served = append(served, chans.Served{Who: o.who, Case: o.number, OK: true})
	}
	if len(ch.buffer) == 0 {
		return done{at, o.c.Val, isMet, served, api.OK}
	}
	v := ch.buffer[0]
	ch.buffer = slices.Clone(ch.buffer[1:])
	if isMet {
		ch.buffer = append(ch.buffer, o.c.Val)
	}
	return got(at, v, served...)
}

func (m *model) shut(c int) ([]chans.Served, api.Errno) {
	switch {
	case c == 0:
		return nil, api.ErrArg
	case !m.has(c):
		return nil, api.ErrNone
	case m.list[c].isShut:
		return nil, api.ErrShut
	}
	m.list[c].isShut = true
	var served []chans.Served
	for _, o := range slices.Clone(m.offers) {
		if o.c.Chan == c && slices.Contains(m.who, o.who) {
			served = append(served, chans.Served{Who: o.who, Case: o.number})
			m.drop(o.who)
		}
	}
	return served, api.OK
}

// pair is a hub and the model of it.
type pair struct {
	h *chans.Hub
	m *model
}

func newPair() pair { return pair{chans.New(), newModel()} }

func (p pair) copy() pair { return pair{p.h.Copy(), p.m.copy()} }

// wantSame holds all that a hub tells against its model, and against what follows of the promises.
func (p pair) wantSame(t *testing.T) {
	t.Helper()
	wantWaiting(t, p.h, p.m.who...)
	var all []chans.Case
	for c := range p.m.list {
		all = append(all, get(c), send(c, 1))
		if c == 0 {
			continue
		}
		wantBuffer(t, p.h, c, p.m.list[c].buffer...)
		if len(p.m.list[c].buffer) > p.m.list[c].size {
			t.Errorf("the buffer %d is longer than its size", c)
		}
	}
	wantNoBuffer(t, p.h, -1, 0, len(p.m.list))
	ready, e := p.m.ready(all)
	if e != api.OK {
		t.Errorf("the model has no Ready: %d", e)
	}
	wantReady(t, p.h, all, ready...)
	for _, a := range p.m.offers {
		for _, b := range p.m.offers {
			if a.c.Chan != 0 && a.c.Chan == b.c.Chan && a.who != b.who && a.c.Send && !b.c.Send {
				t.Errorf("%v and %v could serve one another", a, b)
			}
		}
	}
}

func (p pair) do(t *testing.T, who int, cases []chans.Case, pick int, wait bool) done {
	t.Helper()
	d := p.m.do(who, cases, pick, wait)
	wantDo(t, p.h, who, cases, pick, wait, d)
	return d
}

func (p pair) shut(t *testing.T, c int) api.Errno {
	t.Helper()
	served, e := p.m.shut(c)
	wantShut(t, p.h, c, e, served...)
	return e
}

func (p pair) make(t *testing.T, size int) {
	t.Helper()
	c, e := p.m.make(size)
	wantMake(t, p.h, size, c, e)
}

// act does something by chance to both, and tells what.
func (p pair) act(t *testing.T, r *rand.Rand) string {
	t.Helper()
	switch n := r.Intn(40); {
	case n == 0:
		p.make(t, []int{0, 0, 1, 2, 3, 1024, 1025, -1}[r.Intn(8)])
		return "make"
	case n == 1:
		return fmt.Sprint("shut ", p.shut(t, r.Intn(len(p.m.list)+1)))
	case n < 5:
		who := r.Intn(8)
		e := p.m.drop(who)
		wantDrop(t, p.h, who, e)
		return fmt.Sprint("drop ", e)
	}
	pick := r.Intn(6)
	if r.Intn(30) == 0 {
		pick = -1
	}
	cases := p.someCases(r)
	d := p.do(t, r.Intn(8), cases, pick, r.Intn(3) > 0)
	what := fmt.Sprint("do ", d.e)
	if d.e == api.OK {
		what += fmt.Sprint(" send ", cases[d.at].Send, " served ", len(d.served), " ok ", d.ok)
	}
	return what
}

// someCases: mostly on channels.
func (p pair) someCases(r *rand.Rand) []chans.Case {
	var cases []chans.Case
	for range r.Intn(5) {
		c := chans.Case{Send: r.Intn(2) == 0, Chan: r.Intn(len(p.m.list)), Val: r.Uint64()}
		if r.Intn(60) == 0 {
			c.Chan = []int{-1, len(p.m.list)}[r.Intn(2)]
		}
		cases = append(cases, c)
	}
	return cases
}

// TestHubsByChance: hubs and copies of them, each of which is held against a model whenever something is done to one.
func TestHubsByChance(t *testing.T) {
	count := map[string]int{}
	for seed := range 400 {
		r := rand.New(rand.NewSource(int64(seed)))
		all := []pair{newPair()}
		for range r.Intn(3) {
			all[0].make(t, r.Intn(4))
		}
		for step := range 150 {
			at := r.Intn(len(all))
			if r.Intn(60) == 0 {
				all = append(all, all[at].copy())
			}
			what := all[at].act(t, r)
			count[what]++
			for _, p := range all {
				p.wantSame(t)
			}
			if t.Failed() {
				t.Fatalf("seed %d, step %d: %s of hub %d", seed, step, what, at)
			}
		}
	}
	for _, what := range []string{
		"make", "shut 0", "shut 2", "shut 15", "shut 21", "drop 0", "drop 15", "do 2", "do 8", "do 15", "do 21", "do 22",
		"do 0 send true served 0 ok true", "do 0 send true served 1 ok true",
		"do 0 send false served 0 ok true", "do 0 send false served 1 ok true", "do 0 send false served 0 ok false",
	} {
		if count[what] < 100 {
			t.Errorf("there are too few of %q: %d", what, count[what])
		}
	}
}

// TestAllShortRuns: whatever three can do, one behind the other, at one channel of each small size.
func TestAllShortRuns(t *testing.T) {
	lists := [][]chans.Case{{send(1, 0)}, {get(1)}, {get(0), send(1, 0), get(1)}}
	const ways = 10
	var all func(p pair, left int, val uint64)
	all = func(p pair, left int, val uint64) {
		p.wantSame(t)
		if left == 0 || t.Failed() {
			return
		}
		for way := range ways {
			c := p.copy()
			if way == ways-1 {
				c.shut(t, 1)
				all(c, left-1, val)
				continue
			}
			cases := slices.Clone(lists[way%3])
			for i := range cases {
				cases[i].Val = val + uint64(i)
			}
			c.do(t, way/3, cases, left, true)
			all(c, left-1, val+10)
		}
	}
	for size := range 3 {
		p := newPair()
		p.make(t, size)
		all(p, 4, 100)
	}
}

// TestOrder: values come in the order in which they were sent, and each of them once.
func TestOrder(t *testing.T) {
	for size := range 4 {
		r := rand.New(rand.NewSource(int64(size)))
		h := hub(t, size)
		var came []uint64
		next := uint64(0)
		for who := range 3000 {
			c := get(1)
			if r.Intn(2) == 0 {
				c = send(1, next)
			}
			_, val, _, served, e := h.Do(who, []chans.Case{c}, 0, true)
			if c.Send {
				next++
			}
			switch {
			case e == api.OK && !c.Send:
				came = append(came, val)
			case e == api.OK && len(served) == 1:
				came = append(came, served[0].Val)
			}
		}
		if len(came) < 500 {
			t.Errorf("size %d: only %d values came", size, len(came))
		}
		for i, v := range came {
			if v != uint64(i) {
				t.Fatalf("size %d: the value %d came at %d", size, v, i)
			}
		}
	}
}
