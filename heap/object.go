package heap

import "mullion/api"

// room tells how many cells of the budget an object with so many of its own takes.
func room(cells int) int {
	return cells + 1
}

// hasRoom tells whether an object with so many cells fits beside those that are there.
func (h *Heap) hasRoom(cells int) bool {
	return h.used+room(cells) <= h.budget
}

// cellsOf makes the cells of a new object.
func cellsOf(refs []bool) []cell {
	cells := make([]cell, len(refs))
	for i, isRef := range refs {
		cells[i].isRef = isRef
	}
	return cells
}

// object answers the cells of the object o.
func (h *Heap) object(o int) ([]cell, api.Errno) {
	if h == nil {
		return nil, api.ErrArg
	}
	cells, isThere := h.objects[o]
	if !isThere {
		return nil, api.ErrNone
	}
	return cells, api.OK
}

// cell answers the cell i of the object o, where it stands.
func (h *Heap) cell(o, i int) (*cell, api.Errno) {
	cells, e := h.object(o)
	switch {
	case e != api.OK:
		return nil, e
	case i < 0 || i >= len(cells):
		return nil, api.ErrRange
	}
	return &cells[i], api.OK
}

// freeName answers the least name that no object has.
func (h *Heap) freeName() int {
	name := h.taken + 1
	for h.isName(uint64(name)) {
		name++
	}
	return name
}

// isName tells whether n is an object's name.
func (h *Heap) isName(n uint64) bool {
	if n > api.MaxHeap { // an object takes a cell at least: no name is above
		return false
	}
	_, isThere := h.objects[int(n)]
	return isThere
}

// areRoots tells whether each root is 0, or an object's name.
func (h *Heap) areRoots(roots []int) bool {
	for _, r := range roots {
		if r != 0 && !h.isName(uint64(r)) {
			return false
		}
	}
	return true
}
