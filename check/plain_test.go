package check_test

import (
	"slices"
	"strings"

	"truant/api"
	"truant/parse"
)

// plain is the rules by other means: it lists all that is asked of a program,
// in order, and asks each node by itself; it keeps no variables, but goes from
// a name's node outwards to whoever defines it.
type plain struct {
	program parse.Node
	parent  map[parse.Node]parse.Node
	types   map[parse.Node]string
}

// breach is what a node is asked, or what came of it.
type breach struct {
	at  int
	err api.Errno
}

func kidsOf(n parse.Node) []parse.Node {
	var list []parse.Node
	for i := range n.Kids() {
		list = append(list, n.Kid(i))
	}
	return list
}

// plainly is what the document asks of Check's place and error, of a Program.
func plainly(program parse.Node) (int, api.Errno) {
	p := &plain{program, map[parse.Node]parse.Node{}, map[parse.Node]string{}}
	p.adopt(program)
	for _, b := range slices.Concat(p.rule1(), p.rule2()) {
		if b.err != api.OK {
			return b.at, b.err
		}
	}
	for _, n := range p.order(program) {
		if err := p.ask(n); err != api.OK {
			return n.At(), err
		}
	}
	for _, n := range kidsOf(program) {
		if n.Op() == parse.Func && n.Name() == "main" && n.Kids() == 1 && n.Type() == "" {
			return 0, api.OK
		}
	}
	return 0, api.ErrMain
}

func (p *plain) adopt(n parse.Node) {
	for _, kid := range kidsOf(n) {
		p.parent[kid] = n
		p.adopt(kid)
	}
}

func (p *plain) rule1() []breach {
	var list []breach
	seen, count := map[string]bool{}, map[int]int{}
	for _, n := range kidsOf(p.program) {
		count[n.Op()]++
		most := map[int]int{parse.Struct: 12, parse.Global: 12, parse.Func: 24}[n.Op()]
		switch {
		case seen[n.Name()]:
			list = append(list, breach{n.At(), api.ErrTwice})
		case count[n.Op()] > most:
			list = append(list, breach{n.At(), api.ErrFull})
		}
		seen[n.Name()] = true
	}
	return list
}

func (p *plain) rule2() []breach {
	var list []breach
	named := func(n parse.Node) {
		name, isPointer := strings.CutPrefix(n.Type(), "*")
		if isPointer && p.declared(name).Op() != parse.Struct {
			list = append(list, breach{n.At(), api.ErrName})
		}
	}
	for _, n := range kidsOf(p.program) {
		seen := map[string]bool{}
		most := map[int]int{parse.Struct: 8, parse.Func: 6}[n.Op()]
		for i, part := range kidsOf(n) {
			if part.Op() != parse.Part {
				continue
			}
			switch {
			case i >= most:
				list = append(list, breach{part.At(), api.ErrFull})
			case seen[part.Name()]:
				list = append(list, breach{part.At(), api.ErrTwice})
			}
			seen[part.Name()] = true
			named(part)
		}
		named(n)
	}
	return list
}

// declared is the declaration of that name; the zero Node: there is none.
func (p *plain) declared(name string) parse.Node {
	for _, n := range kidsOf(p.program) {
		if n.Name() == name {
			return n
		}
	}
	return parse.Node{}
}

// order lists nodes as they are asked: kids ahead, but of blocks.
func (p *plain) order(n parse.Node) []parse.Node {
	var ahead, behind []parse.Node
	for _, kid := range kidsOf(n) {
		if (n.Op() == parse.If || n.Op() == parse.For) && kid != n.Kid(0) {
			behind = append(behind, p.order(kid)...)
		} else {
			ahead = append(ahead, p.order(kid)...)
		}
	}
	return slices.Concat(ahead, []parse.Node{n}, behind)
}

// source is the Define, Part, or declaration that the name means at n.
func (p *plain) source(n parse.Node, name string) parse.Node {
	for inner := n; p.parent[inner].Op() != 0; inner = p.parent[inner] {
		outer := p.parent[inner]
		switch outer.Op() {
		case parse.Block:
			if is, at := definedAhead(outer, inner, name); is {
				return at
			}
		case parse.Func:
			for _, part := range kidsOf(outer) {
				if part.Op() == parse.Part && part.Name() == name {
					return part
				}
			}
		}
	}
	return p.declared(name)
}

// definedAhead finds the Define of a name in a block ahead of a statement.
func definedAhead(block, statement parse.Node, name string) (bool, parse.Node) {
	for _, one := range kidsOf(block) {
		if one == statement {
			break
		}
		if one.Op() == parse.Define && one.Name() == name {
			return true, one
		}
	}
	return false, parse.Node{}
}

// typeOf is the type of an expression, or of what a node declares; "?" where
// that makes no sense.
func (p *plain) typeOf(n parse.Node) string {
	if typ, is := p.types[n]; is {
		return typ
	}
	typ := p.find(n)
	p.types[n] = typ
	return typ
}

func (p *plain) find(n parse.Node) string {
	switch n.Op() {
	case parse.Number, parse.Input:
		return "int"
	case parse.Truth, parse.Both, parse.Either:
		return "bool"
	case parse.None:
		return "nil"
	case parse.Part, parse.Global:
		return n.Type()
	case parse.Define:
		return p.typeOf(n.Kid(0))
	case parse.Var, parse.Assign:
		return p.typeOf(p.source(n, n.Name()))
	case parse.Make:
		return "*" + n.Name()
	case parse.Field, parse.Put:
		name, _ := strings.CutPrefix(p.typeOf(n.Kid(0)), "*")
		for _, part := range kidsOf(p.declared(name)) {
			if part.Name() == n.Name() {
				return part.Type()
			}
		}
	case parse.Call:
		return p.declared(n.Name()).Type()
	case parse.Unary:
		return map[int]string{api.Neg: "int", api.Not: "bool"}[n.N()]
	case parse.Binary:
		if n.N() >= api.Eq && n.N() <= api.Ge {
			return "bool"
		}
		return "int"
	}
	return "?"
}

func wrongIf(is bool) api.Errno {
	if is {
		return api.ErrType
	}
	return api.OK
}

func (p *plain) fits(n parse.Node, typ string) bool {
	return p.typeOf(n) == typ || p.typeOf(n) == "nil" && strings.HasPrefix(typ, "*")
}

// ask is what is wrong of a node of rule 3, if all ahead is right.
func (p *plain) ask(n parse.Node) api.Errno {
	switch n.Op() {
	case parse.Var, parse.Assign:
		switch p.source(n, n.Name()).Op() {
		case 0:
			return api.ErrName
		case parse.Struct, parse.Func:
			return api.ErrType
		}
		return wrongIf(n.Op() == parse.Assign && !p.fits(n.Kid(0), p.typeOf(n)))
	case parse.Make:
		switch p.declared(n.Name()).Op() {
		case 0:
			return api.ErrName
		case parse.Struct:
			return api.OK
		}
		return api.ErrType
	case parse.Field, parse.Put:
		if !strings.HasPrefix(p.typeOf(n.Kid(0)), "*") {
			return api.ErrType
		}
		if p.typeOf(n) == "?" {
			return api.ErrName
		}
		return wrongIf(n.Op() == parse.Put && !p.fits(n.Kid(1), p.typeOf(n)))
	case parse.Call:
		return p.askCall(n)
	case parse.Define:
		outer := p.parent[n]
		if is, _ := definedAhead(outer, n, n.Name()); is {
			return api.ErrTwice
		}
		if holder := p.parent[outer]; holder.Op() == parse.Func && p.source(outer, n.Name()).Op() == parse.Part {
			return api.ErrTwice
		}
		return wrongIf(p.typeOf(n) == "nil" || p.typeOf(n) == "")
	case parse.If, parse.For:
		return wrongIf(p.typeOf(n.Kid(0)) != "bool")
	case parse.Print:
		return wrongIf(p.typeOf(n.Kid(0)) != "int")
	case parse.Return:
		return p.askReturn(n)
	case parse.Unary:
		return wrongIf(p.typeOf(n.Kid(0)) != p.typeOf(n))
	case parse.Binary, parse.Both, parse.Either:
		return wrongIf(!p.mayPair(n))
	}
	return api.OK
}

func (p *plain) askCall(n parse.Node) api.Errno {
	source := p.source(n, n.Name())
	if source.Op() == 0 {
		return api.ErrName
	}
	if source.Op() != parse.Func || source.Kids()-1 != n.Kids() {
		return api.ErrType
	}
	for i, arg := range kidsOf(n) {
		if !p.fits(arg, source.Kid(i).Type()) {
			return api.ErrType
		}
	}
	return api.OK
}

func (p *plain) askReturn(n parse.Node) api.Errno {
	fun := n
	for fun.Op() != parse.Func {
		fun = p.parent[fun]
	}
	if n.Kids() == 0 || fun.Type() == "" {
		return wrongIf(n.Kids() > 0 || fun.Type() != "")
	}
	return wrongIf(!p.fits(n.Kid(0), fun.Type()))
}

// mayPair looks the types of two kids up among all pairs that may stand there.
func (p *plain) mayPair(n parse.Node) bool {
	one, two := p.typeOf(n.Kid(0)), p.typeOf(n.Kid(1))
	pairs := map[[2]string]bool{}
	switch {
	case n.Op() != parse.Binary:
		pairs[[2]string{"bool", "bool"}] = true
	case n.N() == api.Eq || n.N() == api.Ne:
		pairs[[2]string{"bool", "bool"}] = true
		for _, s := range kidsOf(p.program) {
			typ := "*" + s.Name()
			pairs[[2]string{typ, typ}] = true
			pairs[[2]string{typ, "nil"}] = true
			pairs[[2]string{"nil", typ}] = true
		}
		fallthrough
	default:
		pairs[[2]string{"int", "int"}] = true
	}
	return pairs[[2]string{one, two}]
}
