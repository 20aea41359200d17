package walk_test

import (
	"math/big"
	"slices"
	"testing"

	"truant/api"
	"truant/check"
	"truant/kind"
	"truant/parse"
	"truant/walk"
)

// plain is what the document asks of a run, by other means: a source is laid
// out as a row of small orders first, with a place of its own for each
// variable and field, found by names and types alone; then a machine with one
// stack goes through the row.
type plain struct {
	info   check.Info
	orders []order
	begins []int // of each function, in orders
	sizes  []int // how many variables each function has

	// Of the function that is laid out.
	known []known
	size  int
}

type known struct {
	name  string
	typ   string
	place int
}

// order is done with arg, if it is op's.
type order struct {
	op  int
	arg int
}

const (
	oStep   = iota
	oPush   // arg
	oPop    // one, and forget it
	oGet    // the variable arg
	oSet    // the variable arg, to what is on top
	oGetAll // the global arg
	oSetAll // the global arg, to what is on top
	oNew    // of the struct arg
	oLoad   // the field arg of what is on top
	oStore  // the field arg of what is below the top
	oCalc   // layer 1's op arg
	oCall   // the function arg
	oReturn // with what is on top
	oJump   // to arg
	oIfNot  // to arg, if the top is 0
	oPrint  // what is on top
	oRead
)

func layOut(tree parse.Node, info check.Info) *plain {
	p := &plain{info: info}
	for i := range tree.Kids() {
		if fun := tree.Kid(i); fun.Op() == parse.Func {
			p.function(fun)
		}
	}
	return p
}

func (p *plain) emit(op, arg int) int {
	p.orders = append(p.orders, order{op, arg})
	return len(p.orders) - 1
}

// here is where orders that are still to come begin.
func (p *plain) here() int { return len(p.orders) }

func (p *plain) function(fun parse.Node) {
	p.begins = append(p.begins, p.here())
	p.known, p.size = nil, 0
	last := fun.Kids() - 1
	for i := range last {
		p.learn(fun.Kid(i).Name(), fun.Kid(i).Type())
	}
	p.block(fun.Kid(last))
	p.emit(oPush, 0)
	p.emit(oReturn, 0)
	p.sizes = append(p.sizes, p.size)
}

func (p *plain) learn(name, typ string) int {
	p.known = append(p.known, known{name, typ, p.size})
	p.size++
	return p.size - 1
}

func (p *plain) find(name string) (known, bool) {
	for _, k := range slices.Backward(p.known) {
		if k.name == name {
			return k, true
		}
	}
	return known{}, false
}

func (p *plain) block(n parse.Node) {
	outer := slices.Clone(p.known)
	for i := range n.Kids() {
		p.statement(n.Kid(i))
	}
	p.known = outer
}

func (p *plain) statement(n parse.Node) {
	p.emit(oStep, 0)
	switch n.Op() {
	case parse.Define:
		typ := p.expr(n.Kid(0))
		p.emit(oSet, p.learn(n.Name(), typ))
	case parse.Assign:
		p.expr(n.Kid(0))
		if k, is := p.find(n.Name()); is {
			p.emit(oSet, k.place)
		} else {
			at, _ := p.info.Global(n.Name())
			p.emit(oSetAll, at)
		}
	case parse.Put:
		typ := p.expr(n.Kid(0))
		p.expr(n.Kid(1))
		place, _ := p.field(typ, n.Name())
		p.emit(oStore, place)
	case parse.If:
		p.choice(n)
	case parse.For:
		begin := p.here()
		p.expr(n.Kid(0))
		out := p.emit(oIfNot, 0)
		p.block(n.Kid(1))
		p.emit(oJump, begin)
		p.orders[out].arg = p.here()
	case parse.Print:
		p.expr(n.Kid(0))
		p.emit(oPrint, 0)
	case parse.Return:
		if n.Kids() == 0 {
			p.emit(oPush, 0)
		} else {
			p.expr(n.Kid(0))
		}
		p.emit(oReturn, 0)
	case parse.Do:
		p.expr(n.Kid(0))
		p.emit(oPop, 0)
	}
}

func (p *plain) choice(n parse.Node) {
	p.expr(n.Kid(0))
	not := p.emit(oIfNot, 0)
	p.block(n.Kid(1))
	out := p.emit(oJump, 0)
	p.orders[not].arg = p.here()
	switch n.Kid(2).Op() {
	case parse.Block:
		p.block(n.Kid(2))
	case parse.If:
		p.statement(n.Kid(2))
	}
	p.orders[out].arg = p.here()
}

// field is the place and the type of a field of what a pointer leads to.
func (p *plain) field(typ, name string) (int, string) {
	at := slices.IndexFunc(p.info.Structs, func(s api.Struct) bool { return "*"+s.Name == typ })
	fields := p.info.Structs[at].Fields
	place := slices.IndexFunc(fields, func(f api.Field) bool { return f.Name == name })
	return place, fields[place].Type
}

// expr lays an expression out, and answers its type.
func (p *plain) expr(n parse.Node) string {
	p.emit(oStep, 0)
	switch n.Op() {
	case parse.Number:
		p.emit(oPush, n.N())
		return api.Int
	case parse.Truth:
		p.emit(oPush, n.N())
		return api.Bool
	case parse.None:
		p.emit(oPush, 0)
		return ""
	case parse.Var:
		return p.variable(n)
	case parse.Make:
		at, _ := kind.Find(p.info.Structs, n.Name())
		p.emit(oNew, at)
		return "*" + n.Name()
	case parse.Field:
		place, typ := p.field(p.expr(n.Kid(0)), n.Name())
		p.emit(oLoad, place)
		return typ
	case parse.Call:
		for i := range n.Kids() {
			p.expr(n.Kid(i))
		}
		at, _ := p.info.Fun(n.Name())
		p.emit(oCall, at)
		return p.info.Funs[at].Result
	case parse.Input:
		p.emit(oRead, 0)
		return api.Int
	}
	return p.sign(n)
}

func (p *plain) variable(n parse.Node) string {
	if k, is := p.find(n.Name()); is {
		p.emit(oGet, k.place)
		return k.typ
	}
	at, _ := p.info.Global(n.Name())
	p.emit(oGetAll, at)
	return p.info.Globals[at].Type
}

func (p *plain) sign(n parse.Node) string {
	p.expr(n.Kid(0))
	switch n.Op() {
	case parse.Unary:
		p.emit(oPush, 0)
		p.emit(oCalc, n.N())
	case parse.Binary:
		p.expr(n.Kid(1))
		p.emit(oCalc, n.N())
	case parse.Both:
		not := p.emit(oIfNot, 0)
		p.expr(n.Kid(1))
		out := p.emit(oJump, 0)
		p.orders[not].arg = p.emit(oPush, 0)
		p.orders[out].arg = p.here()
	case parse.Either:
		not := p.emit(oIfNot, 0)
		p.emit(oPush, 1)
		out := p.emit(oJump, 0)
		p.orders[not].arg = p.here()
		p.expr(n.Kid(1))
		p.orders[out].arg = p.here()
	}
	if n.Op() == parse.Binary && n.N() < api.Eq || n.N() == api.Neg {
		return api.Int
	}
	return api.Bool
}

// machine goes through the orders. What it has on its stack is values, and for
// each call that goes on where it came from.
type machine struct {
	*plain
	in, out []int
	stack   []int
	globals []int
	objects [][]int
	calls   []activation
	at      int
	steps   int
}

type activation struct {
	variables []int
	back      int
}

func (m *machine) pop() int {
	last := len(m.stack) - 1
	n := m.stack[last]
	m.stack = m.stack[:last]
	return n
}

func (m *machine) push(n int) { m.stack = append(m.stack, n) }

func (m *machine) enter(fun int) {
	a := activation{variables: make([]int, m.sizes[fun]), back: m.at}
	args := len(m.info.Funs[fun].Params)
	copy(a.variables, m.stack[len(m.stack)-args:])
	m.stack = m.stack[:len(m.stack)-args]
	m.calls = append(m.calls, a)
	m.at = m.begins[fun]
}

func (m *machine) leave() {
	m.at = m.calls[len(m.calls)-1].back
	m.calls = m.calls[:len(m.calls)-1]
}

// run answers how it ended, and with which fault.
func (m *machine) run(fuel int) (int, api.Errno) {
	main, _ := m.info.Fun("main")
	m.enter(main)
	for len(m.calls) > 0 {
		o := m.orders[m.at]
		m.at++
		if o.op == oStep {
			if m.steps == fuel {
				return walk.Spent, api.OK
			}
			m.steps++
			continue
		}
		if err := m.do(o); err != api.OK {
			return walk.Fault, err
		}
	}
	return walk.Exit, api.OK
}

func (m *machine) do(o order) api.Errno {
	switch o.op {
	case oPush:
		m.push(o.arg)
	case oPop:
		m.pop()
	case oGet:
		m.push(m.calls[len(m.calls)-1].variables[o.arg])
	case oSet:
		m.calls[len(m.calls)-1].variables[o.arg] = m.pop()
	case oGetAll:
		m.push(m.globals[o.arg])
	case oSetAll:
		m.globals[o.arg] = m.pop()
	case oNew:
		m.objects = append(m.objects, make([]int, len(m.info.Structs[o.arg].Fields)))
		m.push(len(m.objects))
	case oLoad, oStore:
		return m.touch(o)
	case oCalc:
		return m.calculate(o.arg)
	case oCall:
		m.enter(o.arg)
	case oReturn:
		m.leave()
	case oJump:
		m.at = o.arg
	case oIfNot:
		if m.pop() == 0 {
			m.at = o.arg
		}
	case oPrint:
		m.out = append(m.out, m.pop())
	case oRead:
		n := 0
		if len(m.in) > 0 {
			n, m.in = m.in[0], m.in[1:]
		}
		m.push(n)
	}
	return api.OK
}

func (m *machine) touch(o order) api.Errno {
	value := 0
	if o.op == oStore {
		value = m.pop()
	}
	obj := m.pop()
	if obj == 0 {
		return api.ErrNil
	}
	if o.op == oStore {
		m.objects[obj-1][o.arg] = value
	} else {
		m.push(m.objects[obj-1][o.arg])
	}
	return api.OK
}

// calculate works with numbers of any size, and cuts what comes out to 64 bits.
func (m *machine) calculate(op int) api.Errno {
	y := m.pop()
	x := m.pop()
	if (op == api.Quo || op == api.Rem) && y == 0 {
		return api.ErrZero
	}
	if (op == api.Shl || op == api.Shr) && y < 0 {
		return api.ErrShift
	}
	a, b, c := big.NewInt(int64(x)), big.NewInt(int64(y)), new(big.Int)
	order := a.Cmp(b)
	switch op {
	case api.Add:
		c.Add(a, b)
	case api.Sub:
		c.Sub(a, b)
	case api.Mul:
		c.Mul(a, b)
	case api.Quo:
		c.Quo(a, b)
	case api.Rem:
		c.Rem(a, b)
	case api.And:
		c.And(a, b)
	case api.Or:
		c.Or(a, b)
	case api.Xor:
		c.Xor(a, b)
	case api.Shl:
		c.Lsh(a, uint(min(y, 64)))
	case api.Shr:
		c.Rsh(a, uint(min(y, 64)))
	case api.Neg:
		c.Neg(a)
	default:
		isTrue := map[int]bool{
			api.Eq: order == 0, api.Ne: order != 0, api.Lt: order < 0, api.Le: order <= 0,
			api.Gt: order > 0, api.Ge: order >= 0, api.Not: x == 0,
		}
		if isTrue[op] {
			c.SetInt64(1)
		}
	}
	wrap := new(big.Int).Lsh(big.NewInt(1), 64)
	m.push(int(c.Mod(c, wrap).Uint64()))
	return api.OK
}

// plainRun is what Run should answer of a source that is right.
func plainRun(t *testing.T, s string, in []int, fuel int) walk.Result {
	t.Helper()
	tree, info, at, err := check.Source(s)
	if err != api.OK {
		t.Fatalf("%q is wrong at %d: %d", s, at, err)
	}
	m := &machine{plain: layOut(tree, info), in: in, globals: make([]int, len(info.Globals))}
	end, fault := m.run(fuel)
	return walk.Result{Out: m.out, End: end, Fault: fault, Steps: m.steps, Made: len(m.objects)}
}
