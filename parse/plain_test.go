package parse_test

import (
	"slices"
	"strings"

	"truant/api"
	"truant/lex"
)

// grammar is the document's, each way of a rule on a line of its own; W is a
// word, N a number. It tells no levels, since these change nothing of what
// fits.
const grammar = `
program =
program = program decl
decl    = type W struct { fields }
decl    = var W typ ;
decl    = func W ( parts ) block
decl    = func W ( parts ) typ block
fields  =
fields  = fields W typ ;
parts   =
parts   = someparts
someparts = W typ
someparts = someparts , W typ
typ     = int
typ     = bool
typ     = * W
block   = { stmts }
stmts   =
stmts   = stmts stmt
stmt    = W := expr ;
stmt    = W = expr ;
stmt    = postfix . W = expr ;
stmt    = W ( args ) ;
stmt    = branch
stmt    = for expr block
stmt    = print ( expr ) ;
stmt    = return ;
stmt    = return expr ;
branch  = if expr block
branch  = if expr block else block
branch  = if expr block else branch
args    =
args    = someargs
someargs = expr
someargs = someargs , expr
expr    = unary
expr    = expr binary unary
unary   = postfix
unary   = - unary
unary   = ! unary
postfix = primary
postfix = postfix . W
primary = N
primary = true
primary = false
primary = nil
primary = W
primary = W ( args )
primary = new ( W )
primary = read ( )
primary = ( expr )
`

const binarySigns = "|| && == != < <= > >= + - | ^ * / % << >> &"

type rule struct {
	name string
	way  []string
}

func rules() []rule {
	var list []rule
	for line := range strings.Lines(strings.TrimSpace(grammar)) {
		fields := strings.Fields(line)
		list = append(list, rule{fields[0], fields[2:]})
	}
	for _, sign := range strings.Fields(binarySigns) {
		list = append(list, rule{"binary", []string{sign}})
	}
	return list
}

// item is a rule of which some symbols are read, from a place on.
type item struct{ rule, dot, from int }

// chart finds, at each place, all items that may stand there (after Earley):
// it looks at all ways at once, so that it needs to choose none.
type chart struct {
	rules  []rule
	byName map[string][]int
	sets   [][]item
	known  []map[item]bool
}

func newChart() *chart {
	c := &chart{rules: rules(), byName: map[string][]int{}}
	for i, r := range c.rules {
		c.byName[r.name] = append(c.byName[r.name], i)
	}
	return c
}

func (c *chart) add(place int, it item) {
	for len(c.sets) <= place {
		c.sets = append(c.sets, nil)
		c.known = append(c.known, map[item]bool{})
	}
	if !c.known[place][it] {
		c.known[place][it] = true
		c.sets[place] = append(c.sets[place], it)
	}
}

// symbol is what the item waits for; "": it is read.
func (c *chart) symbol(it item) string {
	way := c.rules[it.rule].way
	if it.dot == len(way) {
		return ""
	}
	return way[it.dot]
}

func symbolOf(token lex.Token) string {
	switch token.Kind {
	case lex.Word:
		return "W"
	case lex.Number:
		return "N"
	}
	return token.Text
}

func (it item) further() item { return item{it.rule, it.dot + 1, it.from} }

// close finds all that follows at a place without another token.
func (c *chart) close(place int) {
	for i := 0; i < len(c.sets[place]); i++ {
		it := c.sets[place][i]
		symbol := c.symbol(it)
		if symbol == "" {
			for k := 0; k < len(c.sets[it.from]); k++ {
				if waiting := c.sets[it.from][k]; c.symbol(waiting) == c.rules[it.rule].name {
					c.add(place, waiting.further())
				}
			}
			continue
		}
		for _, r := range c.byName[symbol] {
			c.add(place, item{r, 0, place})
			// What is read without a token isn't found again by those who wait
			// for it later; only ways without symbols are read so here.
			if len(c.rules[r].way) == 0 {
				c.add(place, it.further())
			}
		}
	}
}

// misfit answers how many tokens fit, and whether they are a program.
func misfit(list []lex.Token) (int, bool) {
	c := newChart()
	c.add(0, item{0, 0, 0})
	c.add(0, item{1, 0, 0})
	c.close(0)
	for place, token := range list {
		for _, it := range c.sets[place] {
			if c.symbol(it) == symbolOf(token) {
				c.add(place+1, it.further())
			}
		}
		if len(c.sets) <= place+1 {
			return place, false
		}
		c.close(place + 1)
	}
	for _, it := range c.sets[len(list)] {
		if c.symbol(it) == "" && c.rules[it.rule].name == "program" && it.from == 0 {
			return len(list), true
		}
	}
	return len(list), false
}

func endsOperand(token lex.Token) bool {
	return token.Kind == lex.Word || token.Kind == lex.Number || slices.Contains([]string{"true", "false", "nil", ")"}, token.Text)
}

// within is what a token stands in: blocks and brackets by their first byte,
// unaries by a -, and by a dot what isn't counted.
type within []byte

func (w within) depth() int {
	depth := 0
	for _, c := range w {
		if c != '.' {
			depth++
		}
	}
	return depth
}

func (w within) withoutUnaries() within {
	for len(w) > 0 && w[len(w)-1] == '-' {
		w = w[:len(w)-1]
	}
	return w
}

// tooDeep is the place among tokens that fit of the first that is too deep;
// -1: none is.
func tooDeep(list []lex.Token) int {
	var stack within
	at := func(i int) lex.Token {
		if i < 0 {
			return lex.Token{}
		}
		return list[i]
	}
	for i, token := range list {
		prev, isCall := at(i-1), token.Text == "(" && at(i-1).Kind == lex.Word
		if endsOperand(prev) && token.Text != "." && !isCall {
			stack = stack.withoutUnaries()
		}
		switch {
		case token.Text == "}" || token.Text == ")":
			stack = stack[:len(stack)-1]
		case token.Text == "{" && prev.Text == "struct",
			token.Text == "(" && (prev.Text == "new" || prev.Text == "read" || at(i-2).Text == "func"):
			stack = append(stack, '.')
		case token.Text == "{" || token.Text == "(":
			stack = append(stack, token.Text[0])
		case token.Text == "!" || token.Text == "-" && !endsOperand(prev):
			stack = append(stack, '-')
		}
		if stack.depth() > 40 {
			return i
		}
	}
	return -1
}

// plain is what the document asks of Parse's place and error, by other means.
func plain(s string) (int, api.Errno) {
	list, at, err := lex.Scan(s)
	if err != api.OK {
		return at, err
	}
	fit, is := misfit(list)
	if deep := tooDeep(list[:fit]); deep >= 0 {
		return list[deep].At, api.ErrDeep
	}
	switch {
	case is:
		return 0, api.OK
	case fit == len(list):
		return len(s), api.ErrForm
	}
	return list[fit].At, api.ErrForm
}
