// Package node names the kinds of the nodes of a tree, for all layers that make or read trees. See shared/doc/04-tree.md.
package node

// Declarations, and what they are made of.
const (
	Program    = 1 + iota
	Struct     // a struct type
	Func       // a function
	TypeParams // the type parameters of a function
	Field      // a field or a parameter
	Params     // the parameters of a function
	Result     // what comes of a function
	TypeParam
)

// Types.
const (
	TypeName = 10 + iota
	SliceType
	ChanType
	FuncType
)

// Statements; Send and Select are two more.
const (
	Block = 20 + iota
	Define
	Var
	Assign
	Eval // an expression as a statement
	If
	For
	Leave // break or continue
	Return
	Start // go or defer
)

// Expressions.
const (
	Name = 30 + iota
	Number
	Flag // true or false
	Operator
	Call
	Dot
	Index // x[..]: a place of a slice, or a function with its type arguments
	Literal
	FuncLiteral
	Receive
	Make
)

// The statements that channels are for, and the cases of a select.
const (
	Send = 41 + iota
	Select
	ReceiveCase
	SendCase
	DefaultCase
)
