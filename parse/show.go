package parse

import (
	"strings"

	"truant/kind"
	"truant/num"
)

// shower gathers the texts of a tree's tokens.
type shower struct{ texts []string }

// Show: the source of a tree.
func Show(n Node) string {
	var w shower
	w.declaration(n)
	return strings.Join(w.texts, " ")
}

func (w *shower) add(texts ...string) { w.texts = append(w.texts, texts...) }

func (w *shower) declaration(n Node) {
	switch n.Op() {
	case Program:
		for i := range n.Kids() {
			w.declaration(n.Kid(i))
		}
	case Struct:
		w.structure(n)
	case Global:
		w.add("var")
		w.typed(n)
		w.add(";")
	case Func:
		w.function(n)
	case Part:
		w.typed(n)
	default:
		w.statement(n)
	}
}

func (w *shower) structure(n Node) {
	w.add("type", n.Name(), "struct", "{")
	for i := range n.Kids() {
		w.typed(n.Kid(i))
		w.add(";")
	}
	w.add("}")
}

func (w *shower) function(n Node) {
	w.add("func", n.Name())
	body := n.Kids() - 1
	w.inBrackets(n, body, w.typed)
	if n.Type() != "" {
		w.typeTokens(n.Type())
	}
	w.statement(n.Kid(body))
}

// inBrackets shows the first kids of n, with commas between.
func (w *shower) inBrackets(n Node, count int, show func(Node)) {
	w.add("(")
	for i := range count {
		if i > 0 {
			w.add(",")
		}
		show(n.Kid(i))
	}
	w.add(")")
}

func (w *shower) typed(n Node) {
	w.add(n.Name())
	w.typeTokens(n.Type())
}

// typeTokens takes a pointer's type apart, since that is two tokens.
func (w *shower) typeTokens(typ string) {
	if name, is := kind.Elem(typ); is {
		w.add("*", name)
		return
	}
	w.add(typ)
}

func (w *shower) statement(n Node) {
	switch n.Op() {
	case Block:
		w.block(n)
	case Define:
		w.add(n.Name(), ":=")
		w.endWith(n.Kid(0))
	case Assign:
		w.add(n.Name(), "=")
		w.endWith(n.Kid(0))
	case Put:
		w.expr(n.Kid(0))
		w.add(".", n.Name(), "=")
		w.endWith(n.Kid(1))
	case If:
		w.branch(n)
	case For:
		w.add("for")
		w.expr(n.Kid(0))
		w.block(n.Kid(1))
	case Print:
		w.add("print")
		w.inBrackets(n, 1, w.expr)
		w.add(";")
	case Return:
		w.add("return")
		w.endWith(n.Kid(0))
	case Do:
		w.endWith(n.Kid(0))
	default:
		w.expr(n)
	}
}

// endWith shows nothing ahead of the semicolon where there is no expression.
func (w *shower) endWith(n Node) {
	w.expr(n)
	w.add(";")
}

func (w *shower) block(n Node) {
	w.add("{")
	for i := range n.Kids() {
		w.statement(n.Kid(i))
	}
	w.add("}")
}

func (w *shower) branch(n Node) {
	w.add("if")
	w.expr(n.Kid(0))
	w.block(n.Kid(1))
	if n.Kids() > 2 {
		w.add("else")
		w.statement(n.Kid(2))
	}
}

func (w *shower) expr(n Node) {
	switch n.Op() {
	case Number:
		w.add(num.Text(n.N()))
	case Truth:
		w.truth(n)
	case None:
		w.add("nil")
	case Var:
		w.add(n.Name())
	case Make:
		w.add("new", "(", n.Name(), ")")
	case Field:
		w.expr(n.Kid(0))
		w.add(".", n.Name())
	case Call:
		w.add(n.Name())
		w.inBrackets(n, n.Kids(), w.expr)
	case Input:
		w.add("read", "(", ")")
	case Unary:
		w.add("(", num.Sign(n.N()))
		w.expr(n.Kid(0))
		w.add(")")
	case Binary:
		w.pair(n, num.Sign(n.N()))
	case Both:
		w.pair(n, "&&")
	case Either:
		w.pair(n, "||")
	}
}

func (w *shower) truth(n Node) {
	if n.N() == 0 {
		w.add("false")
		return
	}
	w.add("true")
}

func (w *shower) pair(n Node, sign string) {
	w.add("(")
	w.expr(n.Kid(0))
	w.add(sign)
	w.expr(n.Kid(1))
	w.add(")")
}
