package code

import "mullion/api"

// reader reads a module number by number.
type reader struct {
	number func(most uint64) uint64 // reads one that may be most at most; 0 from the first one on that is at fault
	isOff  func() bool              // whether one was at fault
}

// read answers the module whose bytes b is. If it is that of none, isWhole is false, and at is where the first number that is at fault begins.
func read(b []byte) (m api.Module, at int, isWhole bool) {
	isOff := false
	number := func(most uint64) uint64 {
		n, size := first(b[at:])
		if isOff || size == 0 || n > most {
			isOff = true
			return 0
		}
		at += size
		return n
	}
	m = reader{number, func() bool { return isOff }}.module()
	return m, at, !isOff && at == len(b)
}

func (r reader) module() (m api.Module) {
	r.each(func() { m.Types = append(m.Types, r.shape()) })
	r.each(func() { m.Funcs = append(m.Funcs, r.function()) })
	return m
}

func (r reader) shape() (s api.Shape) {
	s.Kind = r.integer(0)
	s.List = r.integers()
	s.Res = r.integer(0)
	return s
}

func (r reader) function() (f api.Func) {
	f.Params = r.integer(0)
	f.Locals = r.integers()
	f.Caps = r.integers()
	f.Res = r.integer(0)
	r.each(func() { f.Code = append(f.Code, r.instruction()) })
	return f
}

func (r reader) instruction() (i api.Instr) {
	i.Op = r.integer(0)
	i.A = r.integer(-1)
	i.B = r.integer(-1)
	i.N = r.number(1<<64 - 1)
	r.each(func() { i.Cases = append(i.Cases, r.selection()) })
	return i
}

func (r reader) selection() (c api.Case) {
	c.Send = r.number(1) == 1
	c.Chan = r.integer(0)
	c.Val = r.integer(-1)
	c.To = r.integer(0)
	return c
}

func (r reader) integers() (list []int) {
	r.each(func() { list = append(list, r.integer(0)) })
	return list
}

// integer reads how far a number is above least, which is the least that it may be.
func (r reader) integer(least int) int {
	return int(r.number(uint64(maxNumber-least))) + least
}

// each reads a list: its length, and then part by part. Where a number is at fault it ends, however long it is told to be.
func (r reader) each(part func()) {
	for left := r.integer(0); left > 0 && !r.isOff(); left-- {
		part()
	}
}

// first answers the number that b begins with, and how many bytes it has: 0, if it is not written as numbers are.
func first(b []byte) (n uint64, size int) {
	for i, c := range b {
		if i == 9 && c > 1 {
			return 0, 0 // it is 2^64 or more
		}
		n |= uint64(c&^more) << (7 * i)
		if c >= more {
			continue
		}
		if c == 0 && i > 0 {
			return 0, 0 // it has fewer bytes than these
		}
		return n, i + 1
	}
	return 0, 0
}
