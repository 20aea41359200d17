package parse

import (
	"truant/lex"
	"truant/num"
)

// How tightly the two signs bind that are no op's; all ops bind more tightly.
const (
	eitherLevel = 1
	bothLevel   = 2
)

func levelOf(sign string) int {
	switch sign {
	case "||":
		return eitherLevel
	case "&&":
		return bothLevel
	}
	op, is := num.Signed(sign, 2)
	if !is {
		return 0
	}
	return num.Level(op)
}

func (r *reader) expr() Node { return r.binary(eitherLevel) }

// binary reads what binds at least as tightly as level. What stands behind a
// sign must bind more tightly than that: so signs of one level bind from the
// left.
func (r *reader) binary(level int) Node {
	left := r.unary()
	for {
		sign := r.peek()
		own := levelOf(sign.Text)
		if own < level {
			return left
		}
		r.next++
		left = pair(sign, left, r.binary(own+1))
	}
}

func pair(sign lex.Token, left, right Node) Node {
	both := row{at: sign.At, kids: []Node{left, right}}
	switch sign.Text {
	case "||":
		both.op = Either
	case "&&":
		both.op = Both
	default:
		both.op = Binary
		both.n, _ = num.Signed(sign.Text, 2)
	}
	return newNode(both)
}

func (r *reader) unary() Node {
	sign := r.peek()
	op, is := num.Signed(sign.Text, 1)
	if !is {
		return r.postfix()
	}
	r.enter(sign.Text)
	kid := r.unary()
	r.leave()
	return newNode(row{op: Unary, n: op, at: sign.At, kids: []Node{kid}})
}

func (r *reader) postfix() Node {
	node := r.primary()
	for r.is(".") {
		node = fieldOf(node, r.fieldName())
	}
	return node
}

func fieldOf(ahead Node, name lex.Token) Node {
	return newNode(row{op: Field, name: name.Text, at: name.At, kids: []Node{ahead}})
}

func (r *reader) primary() Node {
	token := r.peek()
	switch token.Kind {
	case lex.Number:
		return r.number()
	case lex.Word:
		return r.varOrCall()
	}
	switch token.Text {
	case "true":
		return r.single(row{op: Truth, n: 1})
	case "false":
		return r.single(row{op: Truth})
	case "nil":
		return r.single(row{op: None})
	case "new":
		return r.creation()
	case "read":
		return r.input()
	case "(":
		return r.bracketed()
	}
	panic(r.misfit())
}

// single takes the one token of which the node is.
func (r *reader) single(node row) Node {
	node.at = r.peek().At
	r.next++
	return newNode(node)
}

func (r *reader) number() Node {
	// Scan lets no number pass that Parse doesn't take.
	n, _ := num.Parse(r.peek().Text)
	return r.single(row{op: Number, n: n})
}

func (r *reader) varOrCall() Node {
	name := r.needWord()
	if r.is("(") {
		return newNode(row{op: Call, name: name.Text, at: name.At, kids: r.arguments()})
	}
	return newNode(row{op: Var, name: name.Text, at: name.At})
}

func (r *reader) arguments() []Node {
	r.enter("(")
	var list []Node
	if !r.is(")") {
		list = append(list, r.expr())
		for r.take(",") {
			list = append(list, r.expr())
		}
	}
	r.need(")")
	r.leave()
	return list
}

func (r *reader) creation() Node {
	r.need("new")
	r.need("(")
	name := r.needWord()
	r.need(")")
	return newNode(row{op: Make, name: name.Text, at: name.At})
}

func (r *reader) input() Node {
	at := r.need("read").At
	r.need("(")
	r.need(")")
	return newNode(row{op: Input, at: at})
}

// bracketed reads an expression's brackets, or print's, which are as deep.
func (r *reader) bracketed() Node {
	r.enter("(")
	node := r.expr()
	r.need(")")
	r.leave()
	return node
}
