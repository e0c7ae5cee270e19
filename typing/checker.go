package typing

import "mullion/api"

// checker holds what is known of a program, and where in it the check is.
type checker struct {
	types      table
	declared   map[string]int   // how often the names of struct types and functions are declared
	structs    map[string]*Type // the struct types that may be named by now
	functions  map[string]*Head // all functions
	typeParams map[string]*Type // those of the function that is gone through
	needs      []Need           // of that function, by now
	scopes     []scope          // those that are open, the innermost last
	within     function
}

// Head is what is known of a function outside of it, and which functions it needs.
type Head struct {
	Name       string
	TypeParams []*Type
	Takes      []*Type
	Gives      *Type  // nil: nothing comes of it
	Needs      []Need // in the order in which they stand in its block
}

// Need is a function that is named, to be called or as a value, and what its type parameters stand for there.
type Need struct {
	Of   *Head
	Args []*Type
}

// scope holds the variables that are declared in it.
type scope map[string]*Type

// function is what its statements have to know of the function, or of the func literal, that is gone through.
type function struct {
	gives *Type // nil: nothing comes of it
	loops []int // how many breaks each for about has of its own by now, the innermost last
}

// fault is what the checker gives up with: an error, and the place of a node.
type fault struct {
	at int
	e  api.Errno
}

func newChecker() *checker {
	return &checker{
		types:     table{known: map[string]*Type{}},
		declared:  map[string]int{},
		structs:   map[string]*Type{},
		functions: map[string]*Head{},
	}
}

// open begins a scope.
func (c *checker) open() {
	c.scopes = append(c.scopes, scope{})
}

// close ends the innermost scope.
func (c *checker) close() {
	c.scopes = c.scopes[:len(c.scopes)-1]
}

// declare makes a name that n declares a variable of the innermost scope.
func (c *checker) declare(n api.Node, t *Type) {
	inner := c.scopes[len(c.scopes)-1]
	if inner[n.Text] != nil {
		panic(fault{n.At, api.ErrTwice})
	}
	inner[n.Text] = t
}

// variable answers the type of the variable that has the name; nil: none has.
func (c *checker) variable(name string) *Type {
	for i := len(c.scopes) - 1; i >= 0; i-- {
		if t := c.scopes[i][name]; t != nil {
			return t
		}
	}
	return nil
}

// noSuch answers the fault of a node whose name is not of the sort that is asked for there.
func (c *checker) noSuch(n api.Node) fault {
	isKnown := isGiven(n.Text) || c.declared[n.Text] > 0 || c.typeParams[n.Text] != nil || c.variable(n.Text) != nil
	if isKnown {
		return fault{n.At, api.ErrPlace}
	}
	return fault{n.At, api.ErrName}
}

// isGiven tells whether the language itself gives a name a meaning.
func isGiven(name string) bool {
	switch name {
	case "make", "any", "comparable", "integer":
		return true
	}
	return plainKind(name) != 0 || isBuiltIn(name)
}

// isBuiltIn tells whether a name is that of a function that is built in.
func isBuiltIn(name string) bool {
	switch name {
	case "len", "print", "panic", "recover", "close":
		return true
	}
	return false
}

// plainKind answers the Kind of the type that the language gives a name; 0: none.
func plainKind(name string) int {
	switch name {
	case "bool":
		return api.TBool
	case "int8":
		return api.TInt8
	case "uint8":
		return api.TUint8
	case "int32":
		return api.TInt32
	case "uint32":
		return api.TUint32
	case "int64", "int":
		return api.TInt64
	case "uint64":
		return api.TUint64
	}
	return 0
}
