package op_test

import (
	"testing"

	"mullion/op"
)

// TestNumbers: the instructions have the numbers of the chapter's table.
func TestNumbers(t *testing.T) {
	for i, n := range []int{
		op.Num, op.Flag, op.Zero, op.Load, op.Store, op.Drop, op.Arith, op.Shift, op.Less, op.Equal, op.Not, op.Convert,
		op.Pack, op.Part, op.With, op.Make, op.Len, op.At, op.Put, op.Close, op.Box, op.Open, op.Fill, op.Cap, op.Call,
		op.Apply, op.Go, op.Defer, op.Send, op.Recv, op.Shut, op.Select, op.Jump, op.If, op.Ret, op.Throw, op.Caught, op.Print,
	} {
		if n != i+1 {
			t.Errorf("the instruction %d is numbered %d", i+1, n)
		}
	}
}
