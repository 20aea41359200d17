package check_test

import (
	"math/rand"
	"strconv"
	"strings"
	"testing"

	"truant/api"
	"truant/check"
	"truant/kind"
	"truant/parse"
)

// grower writes a program by chance, that is right but where it slips.
type grower struct {
	*rand.Rand
	text   strings.Builder
	slip   int // one in so many choices isn't what it should be; 0: none
	funs   []check.Sig
	vars   []api.Field
	result string
}

func (g *grower) slips() bool { return g.slip > 0 && g.Intn(g.slip) == 0 }

func pick[T any](g *grower, list []T) T { return list[g.Intn(len(list))] }

func types() []string { return []string{"int", "bool", "*A", "*B"} }

func (g *grower) typ() string {
	if g.slips() {
		return pick(g, []string{"*C", "*f0", "*g0", "*int0"})
	}
	return pick(g, types())
}

func (g *grower) name() string {
	return pick(g, []string{"x", "y", "z", "f0", "f1", "g0", "g1", "A", "main", "n0", "u"})
}

func (g *grower) write(parts ...string) {
	for _, part := range parts {
		g.text.WriteString(part + pick(g, []string{" ", "\n", "  ", " // x\n"}))
	}
}

// The structs have a field for each type, so that all types can be had.
const structs = "type A struct { n0 int; n1 bool; n2 *A; n3 *B; }\ntype B struct { n0 int; n1 bool; n2 *A; n3 *B; m int; }\n"

func (g *grower) program() string {
	g.write(structs)
	if g.slips() {
		g.write("type", g.name(), "struct {", g.name(), g.typ()+";", g.name(), g.typ()+"; }")
	}
	for i, typ := range types() {
		g.write("var g"+strconv.Itoa(i), typ+";")
	}
	if g.slips() {
		g.write("var", pick(g, []string{g.name(), "w"}), g.typ()+";")
	}
	if g.slips() {
		g.write("var v", pick(g, []string{"*C", "*g0", "int"})+";")
	}
	for i := range 2 + g.Intn(4) {
		sig := check.Sig{Name: "f" + strconv.Itoa(i)}
		for k := range g.Intn(4) {
			name := pick(g, []string{"x", "y", "z", "f0", "g1"}) + strconv.Itoa(k)[:g.Intn(2)]
			if isKnown(sig.Params, name) && !g.slips() {
				continue
			}
			sig.Params = append(sig.Params, api.Field{Name: name, Type: g.typ()})
		}
		if g.Intn(4) > 0 {
			sig.Result = g.typ()
		}
		g.funs = append(g.funs, sig)
	}
	g.funs = append(g.funs, check.Sig{Name: "main"})
	if g.slip > 0 && g.Intn(20) == 0 {
		g.funs[len(g.funs)-1] = pick(g, []check.Sig{{Name: "Main"}, {Name: "main", Result: "int"}, {Name: "main", Params: []api.Field{{Name: "x", Type: "int"}}}})
	}
	for _, sig := range g.funs {
		g.function(sig)
	}
	return g.text.String()
}

func isKnown(list []api.Field, name string) bool {
	for _, field := range list {
		if field.Name == name {
			return true
		}
	}
	return false
}

func (g *grower) function(sig check.Sig) {
	var parts []string
	for _, part := range sig.Params {
		parts = append(parts, part.Name+" "+part.Type)
	}
	g.write("func "+sig.Name+"(", strings.Join(parts, ", ")+")", sig.Result)
	g.vars, g.result = append([]api.Field(nil), sig.Params...), sig.Result
	g.block(3, len(sig.Params))
}

// block writes one whose last own variables are there already.
func (g *grower) block(budget, own int) {
	g.write("{")
	first := len(g.vars) - own
	for range g.Intn(budget + 2) {
		g.statement(budget, first)
	}
	g.vars = g.vars[:first]
	g.write("}")
}

func (g *grower) statement(budget, first int) {
	typ := pick(g, types())
	switch k := g.Intn(10); {
	case k < 3:
		g.define(typ, first)
	case k == 3:
		if name, is := g.variable(typ); is {
			g.write(name, "=", g.expr(typ, 3)+";")
		}
	case k == 4:
		g.write(g.pointer(2)+"."+g.field(typ), "=", g.expr(typ, 3)+";")
	case k == 5 && budget > 0:
		g.write("if", g.expr("bool", 3))
		g.block(budget-1, 0)
		if g.Intn(2) == 0 {
			g.write("else if", g.expr("bool", 2))
			g.block(budget-1, 0)
			g.write("else")
			g.block(budget-1, 0)
		}
	case k == 6 && budget > 0:
		g.write("for", g.expr("bool", 3))
		g.block(budget-1, 0)
	case k == 7:
		g.write("return", g.returned()+";")
	case k == 8:
		if sig := pick(g, g.funs); g.slips() || !isKnown(g.vars, sig.Name) {
			g.write(g.call(sig, 3) + ";")
		}
	default:
		g.write("print(", g.expr("int", 4), ");")
	}
}

func (g *grower) returned() string {
	if g.slips() {
		return pick(g, []string{"", "1", "nil"})
	}
	if g.result == "" {
		return ""
	}
	return g.expr(g.result, 3)
}

func (g *grower) define(typ string, first int) {
	name := g.name()
	if isKnown(g.vars[first:], name) && !g.slips() {
		return
	}
	g.write(name, ":=", g.notNil(typ, g.expr(typ, 3))+";")
	g.vars = append(g.vars, api.Field{Name: name, Type: typ})
}

// notNil is the expression, or, if it is nil, another one of its type.
func (g *grower) notNil(typ, expr string) string {
	if expr != "nil" || g.slips() {
		return expr
	}
	return "new(" + typ[1:] + ")"
}

// pointer is one that may stand ahead of a point.
func (g *grower) pointer(budget int) string {
	typ := pick(g, []string{"*A", "*B"})
	return g.notNil(typ, g.expr(typ, budget))
}

func (g *grower) field(typ string) string {
	if g.slips() {
		return pick(g, []string{"n0", "n1", "n2", "n3", "m", "x", "A"})
	}
	for i, other := range types() {
		if other == typ {
			return "n" + strconv.Itoa(i)
		}
	}
	return "n0"
}

// variable is the name of one of the type that isn't hidden; false: there is
// none.
func (g *grower) variable(typ string) (string, bool) {
	if g.slips() {
		return g.name(), true
	}
	var list []string
	for i, field := range g.vars {
		if field.Type == typ && !isKnown(g.vars[i+1:], field.Name) {
			list = append(list, field.Name)
		}
	}
	for i, other := range types() {
		if name := "g" + strconv.Itoa(i); other == typ && !isKnown(g.vars, name) {
			list = append(list, name)
		}
	}
	if len(list) == 0 {
		return "", false
	}
	return pick(g, list), true
}

func (g *grower) call(sig check.Sig, budget int) string {
	if g.slips() {
		sig.Name = g.name()
	}
	var args []string
	for _, part := range sig.Params {
		args = append(args, g.expr(part.Type, budget-1))
	}
	if g.slips() {
		args = append(args, "1")
	}
	return sig.Name + "(" + strings.Join(args, ", ") + ")"
}

func (g *grower) expr(typ string, budget int) string {
	if g.slips() {
		typ = pick(g, types())
		if g.Intn(8) == 0 {
			return g.call(pick(g, g.funs), budget)
		}
	}
	switch {
	case budget <= 0 || g.Intn(4) == 0:
		return g.leaf(typ)
	case g.Intn(4) == 0:
		return g.pointer(budget-1) + "." + g.field(typ)
	case g.Intn(3) == 0:
		for _, i := range g.Perm(len(g.funs)) {
			if g.funs[i].Result == typ && !isKnown(g.vars, g.funs[i].Name) {
				return g.call(g.funs[i], budget-1)
			}
		}
	}
	switch typ {
	case "int":
		if g.Intn(4) == 0 {
			return "(-" + g.expr("int", budget-1) + ")"
		}
		return g.pair("int", strings.Fields("+ - * / % & | ^ << >>"), budget)
	case "bool":
		return g.truth(budget)
	}
	return g.leaf(typ)
}

func (g *grower) truth(budget int) string {
	switch g.Intn(4) {
	case 0:
		return "(!" + g.expr("bool", budget-1) + ")"
	case 1:
		return g.pair("bool", []string{"&&", "||"}, budget)
	case 2:
		return g.pair("int", strings.Fields("< <= > >="), budget)
	}
	return g.pair(pick(g, types()), []string{"==", "!="}, budget)
}

func (g *grower) pair(typ string, signs []string, budget int) string {
	one, two := g.expr(typ, budget-1), g.expr(typ, budget-1)
	if one == "nil" {
		two = g.notNil(typ, two)
	}
	return "(" + one + " " + pick(g, signs) + " " + two + ")"
}

func (g *grower) leaf(typ string) string {
	if g.slips() {
		return pick(g, []string{g.name(), "nil", "new(" + g.name() + ")"})
	}
	if name, is := g.variable(typ); is && g.Intn(2) == 0 {
		return name
	}
	switch typ {
	case "int":
		return pick(g, []string{"0", "1", "read()"})
	case "bool":
		return pick(g, []string{"true", "false"})
	}
	return pick(g, []string{"nil", "new(" + typ[1:] + ")", "new(" + typ[1:] + ")"})
}

// wantLikePlain holds Check of a source against the rules by other means, and
// against itself of what is shown; it answers the error, and where.
func wantLikePlain(t *testing.T, s string) (int, api.Errno) {
	t.Helper()
	n, at, err := parse.Parse(s)
	if err != api.OK {
		wantWrong(t, s, at, err)
		return at, err
	}
	info, place, err := check.Check(n)
	wantPlace, want := plainly(n)
	if place != wantPlace || err != want {
		t.Fatalf("Check(%q): place %d, error %d; want %d, %d", s, place, err, wantPlace, want)
	}
	if err != api.OK {
		wantWrong(t, s, place, err)
	} else {
		wantRight(t, s)
		wantDeclared(t, n, info)
	}
	shown := parse.Show(n)
	if again, _, failed := parse.Parse(shown); failed == api.OK {
		other, _, otherErr := check.Check(again)
		if err != otherErr || !sameInfo(info, other) {
			t.Fatalf("%q: error %d, but shown %d", s, err, otherErr)
		}
	}
	return place, err
}

// wantDeclared holds what is answered against the tree.
func wantDeclared(t *testing.T, n parse.Node, info check.Info) {
	t.Helper()
	if at, err := kind.Check(info.Structs); err != api.OK {
		t.Fatalf("struct %d: %d", at, err)
	}
	var shown []string
	next := [3]int{}
	for _, kid := range kidsOf(n) {
		text := ""
		switch kid.Op() {
		case parse.Struct:
			s := info.Structs[next[0]]
			text = "type " + s.Name + " struct {" + fieldsText(s.Fields) + " }"
			next[0]++
		case parse.Global:
			text = "var" + fieldsText(info.Globals[next[1]:next[1]+1])
			next[1]++
		case parse.Func:
			f := info.Funs[next[2]]
			parts := strings.ReplaceAll(strings.TrimSuffix(fieldsText(f.Params), " ;"), " ;", " ,")
			text = strings.TrimSuffix("func "+f.Name+" ("+parts+" ) "+strings.Replace(f.Result, "*", "* ", 1), " ") + " "
			next[2]++
		}
		if !strings.HasPrefix(parse.Show(kid), text) {
			t.Fatalf("declares %q, want %q", text, parse.Show(kid))
		}
		shown = append(shown, text)
	}
	if next != [3]int{len(info.Structs), len(info.Globals), len(info.Funs)} {
		t.Fatalf("declares %v, want %v", info, shown)
	}
}

func fieldsText(list []api.Field) string {
	text := ""
	for _, field := range list {
		text += " " + field.Name + " " + strings.Replace(field.Type, "*", "* ", 1) + " ;"
	}
	return text
}

// find is the node that is named at a place; several may stand there.
func find(n parse.Node, at int) []int {
	var ops []int
	if n.At() == at && n.Op() != parse.Program {
		ops = append(ops, n.Op())
	}
	for _, kid := range kidsOf(n) {
		ops = append(ops, find(kid, at)...)
	}
	return ops
}

type row struct {
	op  int
	err api.Errno
}

// P5.1, P5.3: programs by chance, right ones and wrong ones.
func TestGrown(t *testing.T) {
	seen, errors := map[row]int{}, map[api.Errno]int{}
	for seed := range 12000 {
		g := &grower{Rand: rand.New(rand.NewSource(int64(seed))), slip: []int{0, 50, 100, 200, 400, 1000}[seed%6]}
		s := g.program()
		at, err := wantLikePlain(t, s)
		if g.slip == 0 && err != api.OK {
			t.Fatalf("%q: place %d, error %d", s, at, err)
		}
		errors[err]++
		if err == api.OK || err == api.ErrMain || len(s) > api.MaxText {
			continue
		}
		n, _, _ := parse.Parse(s)
		for _, op := range find(n, at) {
			seen[row{op, err}]++
		}
	}
	for _, err := range []api.Errno{api.OK, api.ErrName, api.ErrTwice, api.ErrType, api.ErrMain} {
		if errors[err] < 20 {
			t.Errorf("error %d: only %d", err, errors[err])
		}
	}
	for _, r := range []row{
		{parse.Struct, api.ErrTwice}, {parse.Global, api.ErrTwice}, {parse.Func, api.ErrTwice}, {parse.Global, api.ErrName}, {parse.Func, api.ErrName},
		{parse.Part, api.ErrTwice}, {parse.Part, api.ErrName}, {parse.Var, api.ErrName}, {parse.Var, api.ErrType}, {parse.Make, api.ErrName}, {parse.Make, api.ErrType},
		{parse.Field, api.ErrType}, {parse.Field, api.ErrName}, {parse.Call, api.ErrName}, {parse.Call, api.ErrType}, {parse.Unary, api.ErrType}, {parse.Binary, api.ErrType},
		{parse.Both, api.ErrType}, {parse.Either, api.ErrType}, {parse.Define, api.ErrTwice}, {parse.Define, api.ErrType}, {parse.Assign, api.ErrName}, {parse.Assign, api.ErrType},
		{parse.Put, api.ErrType}, {parse.Put, api.ErrName}, {parse.If, api.ErrType}, {parse.For, api.ErrType}, {parse.Print, api.ErrType}, {parse.Return, api.ErrType},
	} {
		if seen[r] < 5 {
			t.Errorf("op %d, error %d: only %d", r.op, r.err, seen[r])
		}
	}
	if t.Failed() {
		t.Log(errors, seen)
	}
}

// P1: long and deep sources.
func TestLong(t *testing.T) {
	in := func(s string) string { return "func main(){" + s + "}" }
	wantRight(t, in("print(1"+strings.Repeat("+1", 2030)+");"))
	wantRight(t, "type T struct{t *T;}func f(t *T){t=t"+strings.Repeat(".t", 2000)+";}func main(){}")
	wantRight(t, in("x:=1;"+strings.Repeat("x=x;", 1000)))
	wantRight(t, in("x:=true;if x{}"+strings.Repeat("else if x{}", 360)))
	wantRight(t, in(strings.Repeat("if true{", 39)+strings.Repeat("}", 39)))
	wantRight(t, in(many("%:=1;", "a", 450, -1)+"a0=a449;"))
	wantAt(t, in(many("%:=1;", "a", 450, -1)+"$a0:=a449;"), api.ErrTwice)
	wantAt(t, "var x int;var $x int;"+strings.Repeat("var x int;", 400), api.ErrTwice)
}

func FuzzSource(f *testing.F) {
	for _, s := range []string{"", inMain("x := 1;"), inMain("p.n = nil;"), "func main(a int) { }", "var x int; var x bool;", "func f() *T { } func main() { }"} {
		f.Add(s)
	}
	for seed := range 20 {
		g := &grower{Rand: rand.New(rand.NewSource(int64(seed))), slip: 50}
		f.Add(g.program())
	}
	f.Fuzz(func(t *testing.T, s string) { wantLikePlain(t, s) })
}
