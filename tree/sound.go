package tree

import (
	"slices"

	"mullion/api"
	"mullion/node"
	"mullion/scan"
)

// sorted tells whether a node is of the sort that is asked for somewhere.
type sorted func(n api.Node) bool

// check answers OK if n is of that sort, and it and all in it is sound. What is too deep or has too many nodes is left before it is gone through.
func check(n api.Node, root sorted) api.Errno {
	if !root(n) {
		return api.ErrForm
	}
	nodes := 0
	for depth, p := range each(n) {
		nodes++
		if nodes > api.MaxNodes || depth > api.MaxNest || !isFormed(p) {
			return api.ErrForm
		}
	}
	return api.OK
}

// isFormed tells whether n has what its Kind asks for and nothing else; of the nodes in it only the Kinds are looked at.
func isFormed(n api.Node) bool {
	switch {
	case isType(n):
		return isFormedType(n)
	case isStatement(n):
		return isFormedStatement(n)
	case isExpression(n):
		return isFormedExpression(n)
	}
	return isFormedPart(n)
}

// isFormedPart is isFormed for what is neither a type nor a statement nor an expression.
func isFormedPart(n api.Node) bool {
	switch n.Kind {
	case node.Program:
		return isBare(n) && areAll(n.List, of(node.Struct, node.Func))
	case node.Struct:
		return isNamed(n) && areFew(n.List, of(node.Field))
	case node.Func:
		return isNamed(n) && are(n.List, of(node.TypeParams), of(node.Params), of(node.Result), of(node.Block))
	case node.TypeParams:
		return isBare(n) && areFew(n.List, of(node.TypeParam))
	case node.Field:
		return isNamed(n) && are(n.List, isType)
	case node.Params:
		return isBare(n) && areFew(n.List, of(node.Field))
	case node.Result:
		return isBare(n) && (are(n.List) || are(n.List, isType))
	case node.TypeParam:
		return scan.Name(n.Text) && api.CAny <= n.N && n.N <= api.CInteger && are(n.List)
	case node.ReceiveCase:
		return (isBare(n) || isNamed(n)) && are(n.List, isExpression, of(node.Block))
	case node.SendCase:
		return isBare(n) && are(n.List, isExpression, isExpression, of(node.Block))
	case node.DefaultCase:
		return isBare(n) && are(n.List, of(node.Block))
	}
	return false
}

// isFormedType is isFormed for a type.
func isFormedType(n api.Node) bool {
	switch n.Kind {
	case node.TypeName:
		return isNamed(n) && are(n.List)
	case node.SliceType, node.ChanType:
		return isBare(n) && are(n.List, isType)
	case node.FuncType:
		// N is as many results as there are behind the parameters.
		params := len(n.List) - int(n.N)
		return isEither(n) && 0 <= params && params <= api.MaxParams && areAll(n.List, isType)
	}
	return false
}

// isFormedStatement is isFormed for a statement.
func isFormedStatement(n api.Node) bool {
	block := of(node.Block)
	switch n.Kind {
	case node.Block:
		return isBare(n) && areAll(n.List, isStatement)
	case node.Define:
		return isNamed(n) && are(n.List, isExpression)
	case node.Var:
		return isNamed(n) && are(n.List, isType)
	case node.Assign:
		return isBare(n) && are(n.List, of(node.Name, node.Dot, node.Index), isExpression)
	case node.Eval:
		return isBare(n) && are(n.List, of(node.Call, node.Receive))
	case node.If:
		return isBare(n) && (are(n.List, isExpression, block) || are(n.List, isExpression, block, of(node.Block, node.If)))
	case node.For:
		return isBare(n) && are(n.List, isExpression, block)
	case node.Leave:
		return isEither(n) && are(n.List)
	case node.Return:
		return isBare(n) && (are(n.List) || are(n.List, isExpression))
	case node.Start:
		return isEither(n) && are(n.List, of(node.Call))
	case node.Send:
		return isBare(n) && are(n.List, isExpression, isExpression)
	case node.Select:
		return isBare(n) && areAll(n.List, of(node.ReceiveCase, node.SendCase, node.DefaultCase)) && defaults(n.List) <= 1
	}
	return false
}

// isFormedExpression is isFormed for an expression.
func isFormedExpression(n api.Node) bool {
	switch n.Kind {
	case node.Name:
		return isNamed(n) && are(n.List)
	case node.Number:
		return n.Text == "" && are(n.List)
	case node.Flag:
		return isEither(n) && are(n.List)
	case node.Operator:
		return n.N == 0 && isOperator(n.Text, len(n.List)) && areAll(n.List, isExpression)
	case node.Call:
		return isBare(n) && areArguments(n.List, isExpression)
	case node.Dot:
		return isNamed(n) && are(n.List, isExpression)
	case node.Index:
		return isBare(n) && len(n.List) > 1 && areArguments(n.List, isInBrackets)
	case node.Literal:
		// Its expressions are those of fields, of which a struct has no more.
		return isNamed(n) && areFew(n.List, isExpression)
	case node.FuncLiteral:
		return isBare(n) && are(n.List, of(node.Params), of(node.Result), of(node.Block))
	case node.Receive:
		return isBare(n) && are(n.List, isExpression)
	case node.Make:
		return isBare(n) && are(n.List, isType, isExpression)
	}
	return false
}

// isOperator tells whether text is an operator of so many parts.
func isOperator(text string, parts int) bool {
	switch text {
	case "-", "^":
		return parts == 1 || parts == 2
	case "!":
		return parts == 1
	case "+", "*", "/", "%", "&", "|", "<<", ">>", "&^", "&&", "||", "==", "!=", "<", "<=", ">", ">=":
		return parts == 2
	}
	return false
}

// defaults counts the defaults among cases.
func defaults(cases []api.Node) int {
	n := 0
	for _, c := range cases {
		if c.Kind == node.DefaultCase {
			n++
		}
	}
	return n
}

// isBare tells whether n has neither a Text nor an N.
func isBare(n api.Node) bool {
	return n.Text == "" && n.N == 0
}

// isNamed tells whether n has a name, and no N.
func isNamed(n api.Node) bool {
	return scan.Name(n.Text) && n.N == 0
}

// isEither tells whether n has no Text, and an N that says which of two things it is.
func isEither(n api.Node) bool {
	return n.Text == "" && n.N <= 1
}

// are tells whether list has one node of each of the sorts, in this order, and no other.
func are(list []api.Node, sorts ...sorted) bool {
	if len(list) != len(sorts) {
		return false
	}
	for i, is := range sorts {
		if !is(list[i]) {
			return false
		}
	}
	return true
}

// areAll tells whether all of list are of the sort.
func areAll(list []api.Node, is sorted) bool {
	for _, p := range list {
		if !is(p) {
			return false
		}
	}
	return true
}

// areFew tells whether all of list are of the sort, and no more than parameters may be.
func areFew(list []api.Node, is sorted) bool {
	return len(list) <= api.MaxParams && areAll(list, is)
}

// areArguments tells whether list is an expression, and arguments of the sort behind it.
func areArguments(list []api.Node, is sorted) bool {
	return len(list) > 0 && isExpression(list[0]) && areFew(list[1:], is)
}

// of answers the sort that is made of these Kinds.
func of(kinds ...int) sorted {
	return func(n api.Node) bool {
		return slices.Contains(kinds, n.Kind)
	}
}

// isType tells whether n is a type, by its Kind.
func isType(n api.Node) bool {
	return node.TypeName <= n.Kind && n.Kind <= node.FuncType
}

// isStatement tells whether n is a statement, by its Kind.
func isStatement(n api.Node) bool {
	return node.Block <= n.Kind && n.Kind <= node.Start || n.Kind == node.Send || n.Kind == node.Select
}

// isExpression tells whether n is an expression, by its Kind.
func isExpression(n api.Node) bool {
	return node.Name <= n.Kind && n.Kind <= node.Make
}

// isInBrackets tells whether n may stand in the brackets of x[..]: a type's name is an expression there.
func isInBrackets(n api.Node) bool {
	return isExpression(n) || n.Kind == node.SliceType || n.Kind == node.ChanType
}
