package parse_test

import (
	"math/rand"
	"slices"
	"strconv"
	"strings"
	"testing"

	"truant/api"
	"truant/lex"
	"truant/parse"
)

// want is what a node is to be.
type want struct {
	op   int
	name string
	typ  string
	n    int
	at   int
	kids []want
}

func (w want) size() int {
	size := 1
	for _, kid := range w.kids {
		size += kid.size()
	}
	return size
}

// wantNode holds a node against what it is to be.
func wantNode(t *testing.T, n parse.Node, w want, withPlaces bool) {
	t.Helper()
	if n.Op() != w.op || n.Name() != w.name || n.Type() != w.typ || n.N() != w.n || n.Kids() != len(w.kids) {
		t.Fatalf("node %s, want %+v", tell(n), w)
	}
	if withPlaces && n.At() != w.at {
		t.Fatalf("node %s is not at %d", tell(n), w.at)
	}
	if n.Size() != w.size() {
		t.Fatalf("node %s: size %d, want %d", tell(n), n.Size(), w.size())
	}
	for i, kid := range w.kids {
		wantNode(t, n.Kid(i), kid, withPlaces)
	}
}

// grower writes a source by chance, and what its tree is to be.
type grower struct {
	*rand.Rand
	text  strings.Builder
	last  string // token
	loose bool   // whether brackets stand that nobody needs
}

func isWordByte(c byte) bool { return c == '_' || '0' <= c && c <= '9' || 'A' <= c && c <= 'z' }

// mayMerge is true too often rather than too seldom.
func mayMerge(one, two string) bool {
	if one == "" {
		return false
	}
	a, b := one[len(one)-1], two[0]
	return isWordByte(a) && isWordByte(b) || strings.IndexByte("/&|<>=!:", a) >= 0 && strings.IndexByte("/&|<>=!:", b) >= 0
}

// put writes a token, and answers its place.
func (g *grower) put(text string) int {
	between := ""
	for g.Intn(3) == 0 {
		between += []string{" ", "\n", "\t", "\r\n", "// { ) 1\n", "//\n"}[g.Intn(6)]
	}
	if strings.HasPrefix(between, "/") && g.last == "/" || between == "" && mayMerge(g.last, text) {
		between = " " + between
	}
	g.text.WriteString(between)
	at := g.text.Len()
	g.text.WriteString(text)
	g.last = text
	return at
}

func (g *grower) puts(texts ...string) {
	for _, text := range texts {
		g.put(text)
	}
}

func (g *grower) word() string {
	return []string{"x", "y", "f", "g", "T", "_", "a1", "iff", "printer", "Nil", "structstruct", "n"}[g.Intn(12)]
}

func (g *grower) typ() string {
	switch g.Intn(3) {
	case 0:
		g.put("int")
		return "int"
	case 1:
		g.put("bool")
		return "bool"
	}
	name := g.word()
	g.puts("*", name)
	return "*" + name
}

func (g *grower) typed(op int) want {
	name := g.word()
	at := g.put(name)
	return want{op: op, name: name, typ: g.typ(), at: at}
}

func (g *grower) program() want {
	w := want{op: parse.Program}
	for range g.Intn(6) {
		w.kids = append(w.kids, g.declaration())
	}
	return w
}

func (g *grower) declaration() want {
	name := g.word()
	switch g.Intn(4) {
	case 0:
		g.put("type")
		w := want{op: parse.Struct, name: name, at: g.put(name)}
		g.puts("struct", "{")
		for range g.Intn(4) {
			w.kids = append(w.kids, g.typed(parse.Part))
			g.put(";")
		}
		g.put("}")
		return w
	case 1:
		g.put("var")
		w := g.typed(parse.Global)
		g.put(";")
		return w
	}
	g.put("func")
	w := want{op: parse.Func, name: name, at: g.put(name)}
	g.put("(")
	for i := range g.Intn(4) {
		if i > 0 {
			g.put(",")
		}
		w.kids = append(w.kids, g.typed(parse.Part))
	}
	g.put(")")
	if g.Intn(2) == 0 {
		w.typ = g.typ()
	}
	w.kids = append(w.kids, g.block(4))
	return w
}

func (g *grower) block(budget int) want {
	w := want{op: parse.Block, at: g.put("{")}
	for range g.Intn(budget + 1) {
		w.kids = append(w.kids, g.statement(budget-1))
	}
	g.put("}")
	return w
}

func (g *grower) statement(budget int) want {
	var w want
	switch g.Intn(8) {
	case 0, 1:
		w.op = parse.Define + g.Intn(2)
		w.name = g.word()
		w.at = g.put(w.name)
		g.put([]string{":=", "="}[w.op-parse.Define])
		w.kids = []want{g.expr(budget, 1)}
	case 2:
		w.op, w.name = parse.Put, g.word()
		w.kids = []want{g.expr(budget, 7)}
		g.put(".")
		w.at = g.put(w.name)
		g.put("=")
		w.kids = append(w.kids, g.expr(budget, 1))
	case 3:
		return g.branch(budget)
	case 4:
		w.op, w.at = parse.For, g.put("for")
		w.kids = []want{g.expr(budget, 1)}
		w.kids = append(w.kids, g.block(budget))
		return w
	case 5:
		w.op, w.at = parse.Print, g.put("print")
		g.put("(")
		w.kids = []want{g.expr(budget, 1)}
		g.put(")")
	case 6:
		w.op, w.at = parse.Return, g.put("return")
		if g.Intn(2) == 0 {
			w.kids = []want{g.expr(budget, 1)}
		}
	case 7:
		call := g.call(budget)
		w.op, w.at, w.kids = parse.Do, call.at, []want{call}
	}
	g.put(";")
	return w
}

func (g *grower) branch(budget int) want {
	w := want{op: parse.If, at: g.put("if")}
	w.kids = []want{g.expr(budget, 1)}
	w.kids = append(w.kids, g.block(budget))
	if g.Intn(2) == 0 {
		return w
	}
	g.put("else")
	if g.Intn(2) == 0 {
		w.kids = append(w.kids, g.branch(budget))
	} else {
		w.kids = append(w.kids, g.block(budget))
	}
	return w
}

func (g *grower) call(budget int) want {
	w := want{op: parse.Call, name: g.word()}
	w.at = g.put(w.name)
	g.put("(")
	for i := range g.Intn(4) {
		if i > 0 {
			g.put(",")
		}
		w.kids = append(w.kids, g.expr(budget-1, 1))
	}
	g.put(")")
	return w
}

// expr writes what binds at least as tightly as level: 6 is a unary's, 7 that
// of what stands ahead of a point. What binds less is laid in brackets.
func (g *grower) expr(budget, level int) want {
	if budget <= 0 {
		return g.leaf()
	}
	if g.loose && g.Intn(5) == 0 {
		return g.inBrackets(func() want { return g.expr(budget-1, 1) })
	}
	switch g.Intn(6) {
	case 0:
		return g.raise(level, 6, func() want { return g.unary(budget) })
	case 1, 2:
		signs := strings.Fields("|| && == != < <= > >= + - | ^ * / % << >> &")
		sign := signs[g.Intn(len(signs))]
		return g.raise(level, levels()[sign], func() want { return g.binary(budget, sign) })
	case 3:
		w := want{op: parse.Field, name: g.word(), kids: []want{g.expr(budget-1, 7)}}
		g.put(".")
		w.at = g.put(w.name)
		return w
	case 4:
		return g.call(budget)
	}
	return g.leaf()
}

func (g *grower) inBrackets(inner func() want) want {
	g.put("(")
	w := inner()
	g.put(")")
	return w
}

func (g *grower) raise(level, own int, inner func() want) want {
	if own < level {
		return g.inBrackets(inner)
	}
	return inner()
}

func (g *grower) unary(budget int) want {
	op := api.Neg + g.Intn(2)
	w := want{op: parse.Unary, n: op, at: g.put([]string{"-", "!"}[op-api.Neg])}
	w.kids = []want{g.expr(budget-1, 6)}
	return w
}

func (g *grower) binary(budget int, sign string) want {
	level := levels()[sign]
	left := g.expr(budget-1, level)
	w := want{op: parse.Binary, at: g.put(sign)}
	w.kids = []want{left, g.expr(budget-1, level+1)}
	switch sign {
	case "&&":
		w.op = parse.Both
	case "||":
		w.op = parse.Either
	default:
		w.n = 1 + slices.Index(strings.Fields("+ - * / % & | ^ << >> == != < <= > >="), sign)
	}
	return w
}

func (g *grower) leaf() want {
	switch g.Intn(7) {
	case 0:
		n := []int{0, 1, 9, 10, 1 << 62, greatest}[g.Intn(6)]
		return want{op: parse.Number, n: n, at: g.put(strconv.Itoa(n))}
	case 1:
		return want{op: parse.Truth, n: 1, at: g.put("true")}
	case 2:
		return want{op: parse.Truth, n: 0, at: g.put("false")}
	case 3:
		return want{op: parse.None, at: g.put("nil")}
	case 4:
		g.puts("new", "(")
		w := want{op: parse.Make, name: g.word()}
		w.at = g.put(w.name)
		g.put(")")
		return w
	case 5:
		w := want{op: parse.Input, at: g.put("read")}
		g.puts("(", ")")
		return w
	}
	name := g.word()
	return want{op: parse.Var, name: name, at: g.put(name)}
}

// show is what the document asks of Show, of a tree that is to be.
func (w want) show() string {
	var kids []string
	for _, kid := range w.kids {
		kids = append(kids, kid.show())
	}
	typed := w.name + " " + strings.Replace(w.typ, "*", "* ", 1)
	in := func(opening, between, closing string, list []string) string {
		return strings.Join(strings.Fields(opening+" "+strings.Join(list, " "+between+" ")+" "+closing), " ")
	}
	switch w.op {
	case parse.Program:
		return in("", "", "", kids)
	case parse.Struct:
		return in("type "+w.name+" struct {", "", "}", kids)
	case parse.Global:
		return "var " + typed + " ;"
	case parse.Part:
		return typed
	case parse.Func:
		last := len(kids) - 1
		return in("func "+w.name+" (", ",", ") "+strings.TrimPrefix(typed, w.name)+" "+kids[last], kids[:last])
	case parse.Block:
		return in("{", "", "}", kids)
	case parse.Define:
		return w.name + " := " + kids[0] + " ;"
	case parse.Assign:
		return w.name + " = " + kids[0] + " ;"
	case parse.Put:
		return kids[0] + " . " + w.name + " = " + kids[1] + " ;"
	case parse.If:
		return in("if", "", "", []string{kids[0], kids[1]}) + strings.Join(append([]string{""}, kids[2:]...), " else ")
	case parse.For:
		return in("for", "", "", kids)
	case parse.Print:
		return in("print (", "", ") ;", kids)
	case parse.Return:
		return in("return", "", ";", kids)
	case parse.Do:
		return kids[0] + " ;"
	}
	return w.showExpr(kids)
}

func (w want) showExpr(kids []string) string {
	signs := strings.Fields("+ - * / % & | ^ << >> == != < <= > >= - !")
	switch w.op {
	case parse.Number:
		return strconv.Itoa(w.n)
	case parse.Truth:
		return strconv.FormatBool(w.n == 1)
	case parse.None:
		return "nil"
	case parse.Var:
		return w.name
	case parse.Make:
		return "new ( " + w.name + " )"
	case parse.Field:
		return kids[0] + " . " + w.name
	case parse.Call:
		return strings.Join(strings.Fields(w.name+" ( "+strings.Join(kids, " , ")+" )"), " ")
	case parse.Input:
		return "read ( )"
	case parse.Unary:
		return "( " + signs[w.n-1] + " " + kids[0] + " )"
	case parse.Binary:
		return "( " + kids[0] + " " + signs[w.n-1] + " " + kids[1] + " )"
	case parse.Both:
		return "( " + kids[0] + " && " + kids[1] + " )"
	}
	return "( " + kids[0] + " || " + kids[1] + " )"
}

// withEnds lays a semicolon behind each of a struct's parts, which are
// shown without one in a func.
func (w want) withEnds() want {
	kids := slices.Clone(w.kids)
	for i, kid := range kids {
		kids[i] = kid.withEnds()
		if w.op == parse.Struct {
			kids[i].typ += " ;"
		}
	}
	w.kids = kids
	return w
}

// P4.1 to P4.4: sources by chance, with the trees that they are to be.
func TestGrown(t *testing.T) {
	seen := map[int]int{}
	for seed := range 4000 {
		g := &grower{Rand: rand.New(rand.NewSource(int64(seed))), loose: seed%2 == 0}
		w := g.program()
		s := g.text.String()
		if len(s) > api.MaxText {
			wantWrong(t, s, api.MaxText, api.ErrFull)
			continue
		}
		n := mustParse(t, s)
		wantNode(t, n, w, true)
		count(seen, w)
		shown := parse.Show(n)
		if plainly := w.withEnds().show(); shown != plainly {
			t.Fatalf("%q is shown as\n%s, want\n%s", s, shown, plainly)
		}
		if len(shown) <= api.MaxText {
			again := mustParse(t, shown)
			wantNode(t, again, w, false)
			if parse.Show(again) != shown {
				t.Fatalf("%q is shown otherwise: %q", shown, parse.Show(again))
			}
		}
	}
	for op := parse.Program; op <= parse.Either; op++ {
		if seen[op] < 100 {
			t.Errorf("%s: only %d", opNames()[op], seen[op])
		}
	}
}

func count(seen map[int]int, w want) {
	seen[w.op]++
	for _, kid := range w.kids {
		count(seen, kid)
	}
}

// P4.1: grown sources with tokens changed by chance, against a reader of the
// grammar that is made by other means.
func TestGrownAndBroken(t *testing.T) {
	found := map[api.Errno]int{}
	for seed := range 3000 {
		g := &grower{Rand: rand.New(rand.NewSource(int64(-seed - 1)))}
		g.program()
		list, _, err := lex.Scan(g.text.String())
		if err != api.OK || len(list) == 0 || len(list) > 200 {
			continue
		}
		for range 4 {
			texts := allTexts()
			i := g.Intn(len(list))
			list = slices.Clone(list)
			switch g.Intn(4) {
			case 0:
				list[i].Text = texts[g.Intn(len(texts))]
			case 1:
				list = slices.Insert(list, i, lex.Token{Text: texts[g.Intn(len(texts))]})
			case 2:
				list[i].Text = list[g.Intn(len(list))].Text
			case 3:
				list[i].Text = ""
			}
			s := lex.Join(list)
			wantLikePlain(t, s)
			_, _, err := parse.Parse(s)
			found[err]++
		}
	}
	if found[api.OK] < 100 || found[api.ErrForm] < 1000 {
		t.Error(found)
	}
}

func FuzzParse(f *testing.F) {
	for _, s := range []string{"", fits, "var", inBody("x=((1));"), inBody("g(-1,!x).y=new(T);"), "func f(){" + strings.Repeat("if x{", 41)} {
		f.Add(s)
	}
	f.Fuzz(func(t *testing.T, s string) {
		n, at, err := parse.Parse(s)
		if place, plainly := plain(s); at != place || err != plainly {
			t.Fatalf("Parse(%q): place %d, error %d; want %d, %d", s, at, err, place, plainly)
		}
		if err != api.OK {
			return
		}
		shown := parse.Show(n)
		again, _, err := parse.Parse(shown)
		switch err {
		case api.OK:
			wantSame(t, n, again)
		case api.ErrFull:
			if len(shown) <= api.MaxText {
				t.Fatalf("%q is refused: it isn't too long", shown)
			}
		case api.ErrDeep:
		default:
			t.Fatalf("%q is refused: %d", shown, err)
		}
	})
}

// wantSame holds two trees against each other, but for places.
func wantSame(t *testing.T, a, b parse.Node) {
	t.Helper()
	if a.Op() != b.Op() || a.Name() != b.Name() || a.Type() != b.Type() || a.N() != b.N() || a.Kids() != b.Kids() {
		t.Fatalf("%s is not %s", tell(a), tell(b))
	}
	for i := range a.Kids() {
		wantSame(t, a.Kid(i), b.Kid(i))
	}
}
