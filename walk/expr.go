package walk

import (
	"truant/num"
	"truant/parse"
)

// expr is the value of an expression.
func (a *activation) expr(n parse.Node) int {
	a.step()
	switch n.Op() {
	case parse.Number, parse.Truth:
		return n.N()
	case parse.Var:
		return *a.where(n.Name())
	case parse.Make:
		return a.create(n)
	case parse.Field:
		return a.field(n)
	case parse.Call:
		return a.call(n.Name(), a.args(n))
	case parse.Input:
		return a.read()
	case parse.Unary:
		return a.calculate(n.N(), a.expr(n.Kid(0)), 0)
	case parse.Binary:
		return a.binary(n)
	case parse.Both, parse.Either:
		return a.both(n)
	}
	// None is the only expression that is left.
	return 0
}

func (a *activation) create(n parse.Node) int {
	obj, err := a.heap.Make(n.Name())
	need(err)
	return obj
}

func (a *activation) field(n parse.Node) int {
	obj := a.expr(n.Kid(0))
	value, err := a.heap.Get(obj, a.place(obj, n.Name()))
	need(err)
	return value
}

func (a *activation) args(n parse.Node) []int {
	var list []int
	for i := range n.Kids() {
		list = append(list, a.expr(n.Kid(i)))
	}
	return list
}

func (a *activation) binary(n parse.Node) int {
	x := a.expr(n.Kid(0))
	y := a.expr(n.Kid(1))
	return a.calculate(n.N(), x, y)
}

func (a *activation) calculate(op, x, y int) int {
	value, err := num.Do(op, x, y)
	need(err)
	return value
}

// both leaves the second one unasked, if the first one says it all.
func (a *activation) both(n parse.Node) int {
	first := a.expr(n.Kid(0))
	if (first != 0) == (n.Op() == parse.Either) {
		return first
	}
	return a.expr(n.Kid(1))
}
