package chans

import "slices"

// waiter waits under its own number for one of its cases.
type waiter struct {
	who   int
	cases []Case
}

// meets answers what tells of a case whether it and c serve one another.
func meets(c Case) func(Case) bool {
	return func(other Case) bool {
		return other.Chan == c.Chan && other.Send != c.Send
	}
}

// first answers the place of the first waiter with a case that fits, and the number of its first such case; -1, if there is none.
func (h *Hub) first(fits func(Case) bool) (place, number int) {
	for i, w := range h.waiters {
		if n := slices.IndexFunc(w.cases, fits); n >= 0 {
			return i, n
		}
	}
	return -1, -1
}

// place answers where who stands among the waiters; -1, if who does not wait.
func (h *Hub) place(who int) int {
	return slices.IndexFunc(h.waiters, func(w waiter) bool { return w.who == who })
}

// serve has the waiter at that place wait no more: one of its cases went on, and received val if it does receive.
func (h *Hub) serve(place, number int, val uint64) Served {
	who := h.waiters[place].who
	h.waiters = slices.Delete(h.waiters, place, place+1)
	return Served{Who: who, Case: number, Val: val, OK: true}
}

// release has all waiters with a case on the channel c wait no more, as it is shut.
func (h *Hub) release(c int) []Served {
	var served []Served
	var stay []waiter
	for _, w := range h.waiters {
		number := slices.IndexFunc(w.cases, func(its Case) bool { return its.Chan == c })
		if number < 0 {
			stay = append(stay, w)
			continue
		}
		served = append(served, Served{Who: w.who, Case: number})
	}
	h.waiters = stay
	return served
}
