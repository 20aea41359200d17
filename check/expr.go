package check

import (
	"truant/api"
	"truant/kind"
	"truant/num"
	"truant/parse"
)

// What an expression may be of beside the types. No type is written so.
const (
	nilType = "nil"
	noType  = ""
)

func isPointer(typ string) bool {
	_, is := kind.Elem(typ)
	return is
}

// fits tells whether an expression of typ may stand where want is asked for,
// which is always a type.
func fits(typ, want string) bool {
	return typ == want || typ == nilType && isPointer(want)
}

// expr is the type of an expression.
func (c *scope) expr(n parse.Node) string {
	switch n.Op() {
	case parse.Number, parse.Input:
		return api.Int
	case parse.Truth:
		return api.Bool
	case parse.Var:
		return c.variable(n)
	case parse.Make:
		return c.creation(n)
	case parse.Field:
		return c.field(n, c.expr(n.Kid(0)))
	case parse.Call:
		return c.call(n)
	case parse.Unary:
		return c.unary(n)
	case parse.Binary:
		return c.binary(n)
	case parse.Both, parse.Either:
		return c.both(n)
	}
	// None is the only expression that is left.
	return nilType
}

// variable is the type of what the node's name may be set to.
func (c *scope) variable(n parse.Node) string {
	if typ, is := c.local(n.Name()); is {
		return typ
	}
	if at, is := c.info.Global(n.Name()); is {
		return c.info.Globals[at].Type
	}
	need(n, c.isDeclared(n.Name()), api.ErrName)
	panic(fault{n.At(), api.ErrType})
}

// isDeclared tells whether the program has the name, whatever is hidden here.
func (c *scope) isDeclared(name string) bool {
	_, isStruct := kind.Find(c.info.Structs, name)
	_, isGlobal := c.info.Global(name)
	_, isFun := c.info.Fun(name)
	return isStruct || isGlobal || isFun
}

func (c *scope) creation(n parse.Node) string {
	need(n, c.isDeclared(n.Name()), api.ErrName)
	_, is := kind.Find(c.info.Structs, n.Name())
	need(n, is, api.ErrType)
	return kind.Pointer(n.Name())
}

// field is the type of the field that the node names, of what stands ahead.
func (c *scope) field(n parse.Node, ahead string) string {
	name, is := kind.Elem(ahead)
	need(n, is, api.ErrType)
	// Rule 2 lets no pointer pass whose struct isn't there.
	at, _ := kind.Find(c.info.Structs, name)
	s := c.info.Structs[at]
	place, is := kind.Place(s, n.Name())
	need(n, is, api.ErrName)
	return s.Fields[place].Type
}

func (c *scope) call(n parse.Node) string {
	var args []string
	for i := range n.Kids() {
		args = append(args, c.expr(n.Kid(i)))
	}
	sig := c.callee(n)
	need(n, len(args) == len(sig.Params), api.ErrType)
	for i, arg := range args {
		need(n, fits(arg, sig.Params[i].Type), api.ErrType)
	}
	return sig.Result
}

func (c *scope) callee(n parse.Node) Sig {
	_, isLocal := c.local(n.Name())
	need(n, isLocal || c.isDeclared(n.Name()), api.ErrName)
	at, is := c.info.Fun(n.Name())
	need(n, is && !isLocal, api.ErrType)
	return c.info.Funs[at]
}

func (c *scope) unary(n parse.Node) string {
	typ := api.Int
	if n.N() == api.Not {
		typ = api.Bool
	}
	need(n, c.expr(n.Kid(0)) == typ, api.ErrType)
	return typ
}

func (c *scope) binary(n parse.Node) string {
	left, right := c.expr(n.Kid(0)), c.expr(n.Kid(1))
	areInts := left == api.Int && right == api.Int
	isEquality := n.N() == api.Eq || n.N() == api.Ne
	need(n, areInts || isEquality && mayBeEqual(left, right), api.ErrType)
	if num.Level(n.N()) == num.Level(api.Eq) {
		return api.Bool
	}
	return api.Int
}

// mayBeEqual tells whether two that aren't both int may be held against each
// other.
func mayBeEqual(left, right string) bool {
	if left == api.Bool || isPointer(left) {
		return fits(right, left)
	}
	return isPointer(right) && fits(left, right)
}

func (c *scope) both(n parse.Node) string {
	left, right := c.expr(n.Kid(0)), c.expr(n.Kid(1))
	need(n, left == api.Bool && right == api.Bool, api.ErrType)
	return api.Bool
}
