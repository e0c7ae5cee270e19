package heap

// reached answers each object that the roots reach, with how often it was met. Each root is 0, or an object's name.
func (h *Heap) reached(roots []int) map[int]int {
	times := map[int]int{}
	var left []int // objects whose cells are not looked at yet
	meet := func(name int) {
		if name == 0 {
			return
		}
		if times[name]++; times[name] == 1 {
			left = append(left, name)
		}
	}
	for _, r := range roots {
		meet(r)
	}
	for len(left) > 0 {
		name := left[len(left)-1]
		left = left[:len(left)-1]
		for _, c := range h.objects[name] {
			if c.isRef {
				meet(int(c.n))
			}
		}
	}
	return times
}

// sweep has all objects go that the roots do not reach, and tells how many. Each root is 0, or an object's name.
func (h *Heap) sweep(roots []int) int {
	times := h.reached(roots)
	gone := 0
	for name, cells := range h.objects {
		if times[name] > 0 {
			continue
		}
		delete(h.objects, name)
		h.used -= room(len(cells))
		h.taken = min(h.taken, name-1)
		gone++
	}
	return gone
}
