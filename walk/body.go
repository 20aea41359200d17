package walk

import (
	"truant/kind"
	"truant/parse"
)

// block goes through its statements, and tells whether one of them returned;
// so do all that go through statements.
func (a *activation) block(n parse.Node) bool {
	count := len(a.known)
	isDone := a.statements(n)
	a.known = a.known[:count]
	return isDone
}

func (a *activation) statements(block parse.Node) bool {
	for i := range block.Kids() {
		if a.statement(block.Kid(i)) {
			return true
		}
	}
	return false
}

func (a *activation) statement(n parse.Node) bool {
	if n.Op() == parse.Block {
		return a.block(n)
	}
	a.step()
	switch n.Op() {
	case parse.If:
		return a.choose(n)
	case parse.For:
		return a.loop(n)
	case parse.Return:
		a.giveBack(n)
		return true
	}
	a.simple(n)
	return false
}

// simple does a statement that has no others within it.
func (a *activation) simple(n parse.Node) {
	switch n.Op() {
	case parse.Define:
		a.define(n.Name(), a.expr(n.Kid(0)))
	case parse.Assign:
		value := a.expr(n.Kid(0))
		*a.where(n.Name()) = value
	case parse.Put:
		a.put(n)
	case parse.Print:
		// Its expression may print, too: that stands ahead.
		value := a.expr(n.Kid(0))
		a.out = append(a.out, value)
	case parse.Do:
		a.expr(n.Kid(0))
	}
}

func (a *activation) put(n parse.Node) {
	obj := a.expr(n.Kid(0))
	value := a.expr(n.Kid(1))
	need(a.heap.Set(obj, a.place(obj, n.Name()), value))
}

// place is that of a field of an object. Of nil it is any, since the heap
// answers ErrNil of nil ahead of all else.
func (a *activation) place(obj int, field string) int {
	at, is := kind.Find(a.info.Structs, a.heap.Of(obj))
	if !is {
		return 0
	}
	place, _ := kind.Place(a.info.Structs[at], field)
	return place
}

func (a *activation) choose(n parse.Node) bool {
	if a.expr(n.Kid(0)) != 0 {
		return a.block(n.Kid(1))
	}
	if n.Kids() == 2 {
		return false
	}
	return a.statement(n.Kid(2))
}

func (a *activation) loop(n parse.Node) bool {
	for a.expr(n.Kid(0)) != 0 {
		if a.block(n.Kid(1)) {
			return true
		}
	}
	return false
}

func (a *activation) giveBack(n parse.Node) {
	if n.Kids() > 0 {
		a.returned = a.expr(n.Kid(0))
	}
}
