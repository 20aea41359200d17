package check

import (
	"truant/api"
	"truant/parse"
)

// scope is what a place in a Func's block knows.
type scope struct {
	info   Info
	result string      // of the Func
	known  []api.Field // the variables; each one hides those ahead of its name
	first  int         // where those of this very block begin in known
}

// checkBody is rule 3, of one Func. Its Parts are the first variables of its
// Block, so that a Define there meets them.
func checkBody(info Info, n parse.Node) {
	c := scope{info: info, result: n.Type(), known: partsOf(n)}
	c.statements(n.Kid(n.Kids() - 1))
}

func (c *scope) statements(block parse.Node) {
	for i := range block.Kids() {
		c.statement(block.Kid(i))
	}
}

func (c *scope) statement(n parse.Node) {
	switch n.Op() {
	case parse.Block:
		c.block(n)
	case parse.Define:
		c.define(n)
	case parse.Assign:
		typ := c.expr(n.Kid(0))
		need(n, fits(typ, c.variable(n)), api.ErrType)
	case parse.Put:
		ahead := c.expr(n.Kid(0))
		typ := c.expr(n.Kid(1))
		need(n, fits(typ, c.field(n, ahead)), api.ErrType)
	case parse.If, parse.For:
		c.branch(n)
	case parse.Print:
		need(n, c.expr(n.Kid(0)) == api.Int, api.ErrType)
	case parse.Return:
		c.giveBack(n)
	case parse.Do:
		c.expr(n.Kid(0))
	}
}

func (c *scope) block(n parse.Node) {
	outer, count := c.first, len(c.known)
	c.first = count
	c.statements(n)
	c.first, c.known = outer, c.known[:count]
}

func (c *scope) define(n parse.Node) {
	typ := c.expr(n.Kid(0))
	_, is := findField(c.known[c.first:], n.Name())
	need(n, !is, api.ErrTwice)
	need(n, typ != nilType && typ != noType, api.ErrType)
	c.known = append(c.known, api.Field{Name: n.Name(), Type: typ})
}

// branch asks an If or a For, whose condition is told ahead of its blocks.
func (c *scope) branch(n parse.Node) {
	need(n, c.expr(n.Kid(0)) == api.Bool, api.ErrType)
	for i := 1; i < n.Kids(); i++ {
		c.statement(n.Kid(i))
	}
}

func (c *scope) giveBack(n parse.Node) {
	if n.Kids() == 0 {
		need(n, c.result == noType, api.ErrType)
		return
	}
	typ := c.expr(n.Kid(0))
	need(n, c.result != noType && fits(typ, c.result), api.ErrType)
}

// local is the type of a variable; false: none of that name is known.
func (c *scope) local(name string) (string, bool) {
	for i := len(c.known) - 1; i >= 0; i-- {
		if c.known[i].Name == name {
			return c.known[i].Type, true
		}
	}
	return noType, false
}
