package node_test

import (
	"testing"

	"mullion/node"
)

// TestNumbers: the Kinds have the numbers of the chapter's table.
func TestNumbers(t *testing.T) {
	for _, row := range []struct {
		first int
		kinds []int
	}{
		{1, []int{node.Program, node.Struct, node.Func, node.TypeParams, node.Field, node.Params, node.Result, node.TypeParam}},
		{10, []int{node.TypeName, node.SliceType, node.ChanType, node.FuncType}},
		{20, []int{node.Block, node.Define, node.Var, node.Assign, node.Eval, node.If, node.For, node.Leave, node.Return, node.Start}},
		{30, []int{node.Name, node.Number, node.Flag, node.Operator, node.Call, node.Dot, node.Index, node.Literal, node.FuncLiteral, node.Receive, node.Make}},
		{41, []int{node.Send, node.Select, node.ReceiveCase, node.SendCase, node.DefaultCase}},
	} {
		for i, kind := range row.kinds {
			if kind != row.first+i {
				t.Errorf("the kind %d is numbered %d", row.first+i, kind)
			}
		}
	}
}
