package code

import "mullion/api"

const (
	maxBytes  = 1 << 20
	maxNumber = 1<<31 - 1

	more = 1 << 7 // of a byte behind which its number goes on
)

// writer writes a module as bytes.
type writer struct {
	bytes []byte // what is written, till there is too much of it
	size  int    // how many bytes there are, too many or not
	isOff bool   // a number was beyond what a module's bytes tell
}

func (w *writer) module(m api.Module) {
	w.integer(len(m.Types), 0)
	for _, s := range m.Types {
		w.shape(s)
	}
	w.integer(len(m.Funcs), 0)
	for _, f := range m.Funcs {
		w.function(f)
	}
}

func (w *writer) shape(s api.Shape) {
	w.integer(s.Kind, 0)
	w.integers(s.List)
	w.integer(s.Res, 0)
}

func (w *writer) function(f api.Func) {
	w.integer(f.Params, 0)
	w.integers(f.Locals)
	w.integers(f.Caps)
	w.integer(f.Res, 0)
	w.integer(len(f.Code), 0)
	for _, i := range f.Code {
		w.instruction(i)
	}
}

func (w *writer) instruction(i api.Instr) {
	w.integer(i.Op, 0)
	w.integer(i.A, -1)
	w.integer(i.B, -1)
	w.number(i.N)
	w.integer(len(i.Cases), 0)
	for _, c := range i.Cases {
		w.selection(c)
	}
}

func (w *writer) selection(c api.Case) {
	send := 0
	if c.Send {
		send = 1
	}
	w.integer(send, 0)
	w.integer(c.Chan, 0)
	w.integer(c.Val, -1)
	w.integer(c.To, 0)
}

func (w *writer) integers(list []int) {
	w.integer(len(list), 0)
	for _, n := range list {
		w.integer(n, 0)
	}
}

// integer writes how far n is above least, which is the least that it may be.
func (w *writer) integer(n, least int) {
	if n < least || n > maxNumber {
		w.isOff = true
		return
	}
	w.number(uint64(n - least))
}

func (w *writer) number(n uint64) {
	for ; n >= more; n >>= 7 {
		w.byte(byte(n) | more)
	}
	w.byte(byte(n))
}

// byte keeps no more than may be answered: all numbers are looked at, however many there are.
func (w *writer) byte(b byte) {
	if w.size++; w.size <= maxBytes {
		w.bytes = append(w.bytes, b)
	}
}
