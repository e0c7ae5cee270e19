// Package op names the instructions of modules, for all layers that make, verify or do them. See shared/doc/13-verify.md.
package op

const (
	Num = 1 + iota
	Flag
	Zero
	Load
	Store
	Drop
	Arith
	Shift
	Less
	Equal
	Not
	Convert
	Pack // a struct of its fields
	Part // a field of a struct
	With // a struct with a field changed
	Make
	Len
	At
	Put
	Close // a closure
	Box
	Open
	Fill
	Cap // a captured value
	Call
	Apply // a call of a closure
	Go
	Defer
	Send
	Recv
	Shut
	Select
	Jump
	If
	Ret
	Throw
	Caught
	Print
)
