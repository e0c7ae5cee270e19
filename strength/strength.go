// Package strength tells how strong operators of two bind, for the layers that read and write them.
package strength

// Of answers how strong an operator of two binds, from 1 on; 0: that is none.
func Of(op string) int {
	switch op {
	case "*", "/", "%", "<<", ">>", "&", "&^":
		return 5
	case "+", "-", "|", "^":
		return 4
	case "==", "!=", "<", "<=", ">", ">=":
		return 3
	case "&&":
		return 2
	case "||":
		return 1
	}
	return 0
}
