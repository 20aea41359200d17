package parse

import (
	"truant/api"
	"truant/kind"
	"truant/lex"
)

// reader goes along the tokens of a source from the left, and never back: so
// the token at which it can't go on is the first one that doesn't fit.
type reader struct {
	list  []lex.Token // the last one is of no kind, and is never taken
	next  int
	depth int // of what the next token stands in
}

func (r *reader) peek() lex.Token { return r.list[r.next] }

func (r *reader) misfit() fault { return fault{r.peek().At, api.ErrForm} }

// is asks the text alone, since no two kinds of tokens share one.
func (r *reader) is(text string) bool { return r.peek().Text == text }

// take answers whether the next token was that one; only then it is taken.
func (r *reader) take(text string) bool {
	if !r.is(text) {
		return false
	}
	r.next++
	return true
}

func (r *reader) need(text string) lex.Token {
	token := r.peek()
	if !r.take(text) {
		panic(r.misfit())
	}
	return token
}

func (r *reader) needWord() lex.Token {
	token := r.peek()
	if token.Kind != lex.Word {
		panic(r.misfit())
	}
	r.next++
	return token
}

// enter needs a token that begins something deeper, which leave ends.
func (r *reader) enter(text string) lex.Token {
	token := r.need(text)
	if r.depth == api.MaxDepth {
		panic(fault{token.At, api.ErrDeep})
	}
	r.depth++
	return token
}

func (r *reader) leave() { r.depth-- }

func (r *reader) program() Node {
	var kids []Node
	for r.next < len(r.list)-1 {
		kids = append(kids, r.declaration())
	}
	return newNode(row{op: Program, kids: kids})
}

func (r *reader) declaration() Node {
	switch {
	case r.take("type"):
		return r.structure()
	case r.take("var"):
		return r.named(Global)
	case r.take("func"):
		return r.function()
	}
	panic(r.misfit())
}

func (r *reader) structure() Node {
	name := r.needWord()
	r.need("struct")
	r.need("{")
	var parts []Node
	for !r.take("}") {
		parts = append(parts, r.named(Part))
	}
	return newNode(row{op: Struct, name: name.Text, at: name.At, kids: parts})
}

// named reads a Global, or a struct's Part.
func (r *reader) named(op int) Node {
	node := r.typed(op)
	r.need(";")
	return node
}

func (r *reader) typed(op int) Node {
	name := r.needWord()
	return newNode(row{op: op, name: name.Text, typ: r.typeText(), at: name.At})
}

func (r *reader) typeText() string {
	switch {
	case r.take(api.Int):
		return api.Int
	case r.take(api.Bool):
		return api.Bool
	}
	r.need("*")
	return kind.Pointer(r.needWord().Text)
}

func (r *reader) function() Node {
	name := r.needWord()
	kids := r.parts()
	result := ""
	if !r.is("{") {
		result = r.typeText()
	}
	kids = append(kids, r.block())
	return newNode(row{op: Func, name: name.Text, typ: result, at: name.At, kids: kids})
}

func (r *reader) parts() []Node {
	r.need("(")
	if r.take(")") {
		return nil
	}
	list := []Node{r.typed(Part)}
	for r.take(",") {
		list = append(list, r.typed(Part))
	}
	r.need(")")
	return list
}

func (r *reader) block() Node {
	at := r.enter("{").At
	var kids []Node
	for !r.take("}") {
		kids = append(kids, r.statement())
	}
	r.leave()
	return newNode(row{op: Block, at: at, kids: kids})
}

func (r *reader) statement() Node {
	switch r.peek().Text {
	case "if":
		return r.branch()
	case "for":
		return r.loop()
	case "print":
		return r.print()
	case "return":
		return r.giveBack()
	}
	return r.simple()
}

func (r *reader) branch() Node {
	at := r.need("if").At
	kids := []Node{r.expr(), r.block()}
	if r.take("else") {
		kids = append(kids, r.otherwise())
	}
	return newNode(row{op: If, at: at, kids: kids})
}

func (r *reader) otherwise() Node {
	if r.is("if") {
		return r.branch()
	}
	return r.block()
}

func (r *reader) loop() Node {
	at := r.need("for").At
	return newNode(row{op: For, at: at, kids: []Node{r.expr(), r.block()}})
}

func (r *reader) print() Node {
	at := r.need("print").At
	value := r.bracketed()
	r.need(";")
	return newNode(row{op: Print, at: at, kids: []Node{value}})
}

func (r *reader) giveBack() Node {
	at := r.need("return").At
	var kids []Node
	if !r.is(";") {
		kids = append(kids, r.expr())
	}
	r.need(";")
	return newNode(row{op: Return, at: at, kids: kids})
}

// simple reads a statement that no key tells: what it is stands behind its
// first primary. Brackets are gone from a tree, so the first token is asked
// whether a name stands there without them.
func (r *reader) simple() Node {
	isBare := r.peek().Kind == lex.Word
	head := r.primary()
	if isBare && head.Op() == Call && r.take(";") {
		return newNode(row{op: Do, at: head.At(), kids: []Node{head}})
	}
	if isBare && head.Op() == Var {
		switch {
		case r.take(":="):
			return r.setting(Define, head)
		case r.take("="):
			return r.setting(Assign, head)
		}
	}
	return r.put(head)
}

func (r *reader) setting(op int, variable Node) Node {
	value := r.expr()
	r.need(";")
	return newNode(row{op: op, name: variable.Name(), at: variable.At(), kids: []Node{value}})
}

// put keeps the last field apart, since that one isn't loaded from.
func (r *reader) put(head Node) Node {
	name := r.fieldName()
	for r.is(".") {
		head = fieldOf(head, name)
		name = r.fieldName()
	}
	r.need("=")
	value := r.expr()
	r.need(";")
	return newNode(row{op: Put, name: name.Text, at: name.At, kids: []Node{head, value}})
}

func (r *reader) fieldName() lex.Token {
	r.need(".")
	return r.needWord()
}
