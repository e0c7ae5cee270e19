package chans

import "mullion/api"

// channel has a buffer of values, of which the first comes first.
type channel struct {
	size   int
	buffer []uint64
	isShut bool
}

// isChannel tells whether c is a channel's number.
func (h *Hub) isChannel(c int) bool {
	return 1 <= c && c <= len(h.channels)
}

// channel answers the channel c, where it stands.
func (h *Hub) channel(c int) *channel {
	return &h.channels[c-1]
}

// areCases tells whether each case is on a channel, or on nobody's.
func (h *Hub) areCases(cases []Case) bool {
	for _, c := range cases {
		if c.Chan != 0 && !h.isChannel(c.Chan) {
			return false
		}
	}
	return true
}

// ready answers the numbers of the cases that can go on.
func (h *Hub) ready(cases []Case) []int {
	var all []int
	for number, c := range cases {
		if h.canGoOn(c) {
			all = append(all, number)
		}
	}
	return all
}

// canGoOn tells whether nothing is to be waited for.
func (h *Hub) canGoOn(c Case) bool {
	if c.Chan == 0 {
		return false
	}
	if h.channel(c.Chan).lets(c.Send) {
		return true
	}
	w, _ := h.first(meets(c))
	return w >= 0
}

// lets tells whether a sending, or a receipt, can go on without anybody else.
func (ch *channel) lets(send bool) bool {
	switch {
	case ch.isShut:
		return true
	case send:
		return len(ch.buffer) < ch.size
	}
	return len(ch.buffer) > 0
}

// goOn does what a case asks for that can go on.
func (h *Hub) goOn(c Case) (val uint64, ok bool, served []Served, e api.Errno) {
	if !c.Send {
		val, ok, served = h.receive(c)
		return val, ok, served, api.OK
	}
	if h.channel(c.Chan).isShut {
		return 0, false, nil, api.ErrShut
	}
	return 0, true, h.send(c), api.OK
}

// send gives the value to the first who receives on the channel, or else to its buffer.
func (h *Hub) send(c Case) []Served {
	if w, number := h.first(meets(c)); w >= 0 {
		return []Served{h.serve(w, number, c.Val)}
	}
	ch := h.channel(c.Chan)
	ch.buffer = append(ch.buffer, c.Val)
	return nil
}

// receive takes the channel's first value, and has the first who sends there go on.
func (h *Hub) receive(c Case) (val uint64, ok bool, served []Served) {
	ch := h.channel(c.Chan)
	// The buffer is full while somebody sends: what comes to its end ahead of the taking goes into the place that the taking frees, or is itself what is taken.
	if w, number := h.first(meets(c)); w >= 0 {
		ch.buffer = append(ch.buffer, h.waiters[w].cases[number].Val)
		served = []Served{h.serve(w, number, 0)}
	}
	if len(ch.buffer) == 0 {
		return 0, false, nil
	}
	val = ch.buffer[0]
	ch.buffer = ch.buffer[1:]
	return val, true, served
}
