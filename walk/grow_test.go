package walk_test

import (
	"math/rand"
	"slices"
	"strconv"
	"strings"
	"testing"

	"truant/api"
	"truant/check"
	"truant/parse"
	"truant/walk"
)

// grower writes by chance a program that is right, and that goes on for a
// while: pointers are seldom nil, loops end more often than not, and calls
// within calls are given less and less.
type grower struct {
	*rand.Rand
	text   strings.Builder
	funs   []check.Sig
	vars   []api.Field
	result string
	count  int
}

func pick[T any](g *grower, list ...T) T { return list[g.Intn(len(list))] }

func types() []string { return []string{"int", "bool", "*A", "*B"} }

func (g *grower) write(parts ...string) {
	for _, part := range parts {
		g.text.WriteString(part + " ")
	}
}

// The structs have a field for each type, at other places, so that all types
// can be had; globals and functions are named as variables are, too.
const declared = "type A struct { n int; b bool; p *A; q *B; }\ntype B struct { q *B; p *A; m int; n int; b bool; }\n" +
	"var k int; var h bool; var v *A; var w *B;\n"

func (g *grower) program() string {
	g.write(declared)
	for i := range 1 + g.Intn(4) {
		sig := check.Sig{Name: pick(g, "f", "x", "y") + strconv.Itoa(i)}
		for k := range g.Intn(4) {
			sig.Params = append(sig.Params, api.Field{Name: pick(g, "x", "y", "f", "k")[:1] + strconv.Itoa(k), Type: pick(g, types()...)})
		}
		if g.Intn(5) > 0 {
			sig.Result = pick(g, types()...)
		}
		g.funs = append(g.funs, sig)
	}
	g.funs = append(g.funs, check.Sig{Name: "main"})
	for _, sig := range g.funs {
		g.function(sig)
	}
	return g.text.String()
}

func (g *grower) function(sig check.Sig) {
	var parts []string
	for _, part := range sig.Params {
		parts = append(parts, part.Name+" "+part.Type)
	}
	g.write("func "+sig.Name+"("+strings.Join(parts, ", ")+")", sig.Result)
	g.vars, g.result = slices.Clone(sig.Params), sig.Result
	g.write("{")
	g.body(3, 0)
	if sig.Result != "" && g.Intn(6) > 0 {
		g.write("return", g.expr(sig.Result, 2)+";")
	}
	g.write("}\n")
}

// body writes the statements of a block whose own variables begin at first.
func (g *grower) body(budget, first int) {
	for range 1 + g.Intn(budget+3) {
		g.statement(budget, first)
	}
}

func (g *grower) block(budget int) {
	count := len(g.vars)
	g.write("{")
	g.body(budget, count)
	g.write("}")
	g.vars = g.vars[:count]
}

func (g *grower) statement(budget, first int) {
	typ := pick(g, types()...)
	switch k := g.Intn(14); {
	case k < 3:
		g.define(typ, first)
	case k < 5:
		name, is := g.variable(typ)
		if !is || g.Intn(4) == 0 {
			name, is = g.global(typ)
		}
		if is {
			g.write(name, "=", g.expr(typ, 2)+";")
		}
	case k < 7:
		owner := pick(g, "*A", "*B")
		g.write(g.ahead(owner)+"."+g.field(owner, typ), "=", g.expr(typ, 2)+";")
	case k == 7 && budget > 0:
		g.write("if", g.expr("bool", 2))
		g.block(budget - 1)
		for g.Intn(3) == 0 {
			g.write("else if", g.expr("bool", 2))
			g.block(budget - 1)
		}
		if g.Intn(2) == 0 {
			g.write("else")
			g.block(budget - 1)
		}
	case k == 8 && budget > 0:
		g.loop(budget)
	case k == 9:
		sig := pick(g, g.funs...)
		g.write(g.call(sig, 2) + ";")
	case k == 10 && g.Intn(4) == 0:
		g.giveBack()
	default:
		g.write("print(" + g.expr("int", 3) + ");")
	}
}

func (g *grower) define(typ string, first int) {
	name := pick(g, "x", "y", "z", "k", "v", "f0", "A", "main")
	isTaken := slices.ContainsFunc(g.vars[first:], func(f api.Field) bool { return f.Name == name })
	value := g.expr(typ, 2)
	if isTaken || value == "nil" {
		return
	}
	g.write(name, ":=", value+";")
	g.vars = append(g.vars, api.Field{Name: name, Type: typ})
}

// loop writes one that counts by a variable of its own, or by chance one that
// hangs on anything.
func (g *grower) loop(budget int) {
	if g.Intn(5) == 0 {
		g.write("for", g.expr("bool", 2))
		g.block(budget - 1)
		return
	}
	g.count++
	name := "i" + strconv.Itoa(g.count)
	g.write(name, ":= 0; for", name, "<", strconv.Itoa(g.Intn(4)), "{", name, "=", name, "+ 1;")
	count := len(g.vars)
	g.vars = append(g.vars, api.Field{Name: name, Type: "int"})
	g.body(budget-1, len(g.vars))
	g.write("}")
	g.vars = g.vars[:count+1]
}

func (g *grower) giveBack() {
	if g.result == "" {
		g.write("return;")
		return
	}
	g.write("return", g.expr(g.result, 2)+";")
}

// variable names a variable of typ that isn't hidden.
func (g *grower) variable(typ string) (string, bool) {
	isHidden := map[string]bool{}
	var names []string
	for _, f := range slices.Backward(g.vars) {
		if f.Type == typ && !isHidden[f.Name] {
			names = append(names, f.Name)
		}
		isHidden[f.Name] = true
	}
	if len(names) == 0 {
		return "", false
	}
	return pick(g, names...), true
}

func (g *grower) isHidden(name string) bool {
	return slices.ContainsFunc(g.vars, func(f api.Field) bool { return f.Name == name })
}

func (g *grower) global(typ string) (string, bool) {
	name := map[string]string{"int": "k", "bool": "h", "*A": "v", "*B": "w"}[typ]
	return name, !g.isHidden(name)
}

func (g *grower) field(owner, typ string) string {
	switch typ {
	case "int":
		if owner == "*B" {
			return pick(g, "m", "n")
		}
		return "n"
	case "bool":
		return "b"
	case "*A":
		return "p"
	}
	return "q"
}

// ahead is what may stand ahead of a point.
func (g *grower) ahead(typ string) string {
	if name, is := g.variable(typ); is && g.Intn(6) > 0 {
		return name
	}
	if s := g.expr(typ, 1); s != "nil" && g.Intn(3) == 0 {
		return "(" + s + ")"
	}
	return "new(" + typ[1:] + ")"
}

func (g *grower) call(sig check.Sig, depth int) string {
	if g.isHidden(sig.Name) {
		return "print(0)"
	}
	var args []string
	for _, part := range sig.Params {
		args = append(args, g.expr(part.Type, depth-1))
	}
	return sig.Name + "(" + strings.Join(args, ", ") + ")"
}

// calls is a call that answers typ, if there is one.
func (g *grower) calls(typ string, depth int) (string, bool) {
	sig := pick(g, g.funs...)
	if sig.Result != typ || g.isHidden(sig.Name) {
		return "", false
	}
	return g.call(sig, depth), true
}

func (g *grower) expr(typ string, depth int) string {
	if depth > 0 && g.Intn(5) == 0 {
		if s, is := g.calls(typ, depth); is {
			return s
		}
	}
	if s, is := g.variable(typ); is && g.Intn(2) == 0 {
		return s
	}
	if s, is := g.global(typ); is && g.Intn(5) == 0 {
		return s
	}
	if depth > 0 && g.Intn(4) == 0 {
		owner := pick(g, "*A", "*B")
		return g.ahead(owner) + "." + g.field(owner, typ)
	}
	switch typ {
	case "int":
		return g.number(depth)
	case "bool":
		return g.truth(depth)
	}
	if g.Intn(6) == 0 {
		return "nil"
	}
	return "new(" + typ[1:] + ")"
}

func (g *grower) number(depth int) string {
	switch k := g.Intn(8); {
	case depth == 0 || k < 2:
		return pick(g, "0", "1", "2", "3", "7", "63", "64", "9223372036854775807", "read()", "read()")
	case k == 2:
		return "-" + "(" + g.expr("int", depth-1) + ")"
	case k == 3:
		sign := pick(g, "/", "%", "<<", ">>", "<<-", ">>-")
		return "(" + g.expr("int", depth-1) + sign + g.expr("int", depth-1) + ")"
	}
	sign := pick(g, "+", "-", "*", "&", "|", "^")
	return "(" + g.expr("int", depth-1) + sign + g.expr("int", depth-1) + ")"
}

func (g *grower) truth(depth int) string {
	switch k := g.Intn(8); {
	case depth == 0 || k == 0:
		return pick(g, "true", "false")
	case k == 1:
		return "!(" + g.expr("bool", depth-1) + ")"
	case k < 4:
		return "(" + g.expr("bool", depth-1) + pick(g, "&&", "||") + g.expr("bool", depth-1) + ")"
	case k == 4:
		typ := pick(g, "bool", "*A", "*B")
		left, right := g.expr(typ, depth-1), g.expr(typ, depth-1)
		if left != "nil" || right != "nil" {
			return "(" + left + pick(g, "==", "!=") + right + ")"
		}
	}
	return "(" + g.expr("int", depth-1) + pick(g, "==", "!=", "<", "<=", ">", ">=") + g.expr("int", depth-1) + ")"
}

func (g *grower) numbers() []int {
	var list []int
	for range g.Intn(6) {
		list = append(list, pick(g, -3, -1, 0, 1, 2, 5, 1<<40))
	}
	return list
}

// grow answers a source that is short enough, and numbers to read.
func grow(seed int64) (string, []int) {
	g := &grower{Rand: rand.New(rand.NewSource(seed))}
	for {
		g.text.Reset()
		g.funs = nil
		if s := g.program(); len(s) <= api.MaxText {
			return s, g.numbers()
		}
	}
}

// P7.1, P7.2: runs of grown programs with any fuel are those of the machine;
// with more fuel a run prints what it printed, and more; one that wasn't Spent
// is the same.
func TestGrown(t *testing.T) {
	ends := map[[2]int]int{}
	for seed := range int64(2000) {
		s, in := grow(seed)
		most := 3000
		if seed%100 == 0 {
			most = api.MaxFuel
		}
		whole := run(t, s, in, most)
		ends[[2]int{whole.End, int(whole.Fault)}]++
		last := walk.Result{End: walk.Spent}
		for _, fuel := range fuels(seed, whole.Steps, most) {
			r := run(t, s, in, fuel)
			if want := plainRun(t, s, in, fuel); !isSame(r, want) {
				t.Fatalf("%s\nof %v with %d of fuel: %v, want %v", s, in, fuel, brief(r), brief(want))
			}
			if last.End != walk.Spent && !isSame(last, r) || !walk.IsPrefix(last.Out, r.Out) || last.Made > r.Made || last.Steps > r.Steps {
				t.Fatalf("%s\nof %v with %d of fuel: %v behind %v", s, in, fuel, brief(r), brief(last))
			}
			if isWhole := fuel >= whole.Steps; isWhole && !isSame(r, whole) || !isWhole && r.Steps != fuel {
				t.Fatalf("%s\nof %v with %d of fuel: %v, whole %v", s, in, fuel, brief(r), brief(whole))
			}
			last = r
		}
	}
	for _, end := range [][2]int{{walk.Exit, 0}, {walk.Spent, 0}, {walk.Fault, int(api.ErrNil)}, {walk.Fault, int(api.ErrZero)}, {walk.Fault, int(api.ErrShift)}} {
		if ends[end] < 30 {
			t.Errorf("only %d programs end as %v: %v", ends[end], end, ends)
		}
	}
	t.Log(ends)
}

// fuels are some, rising, that lie about those that a run takes.
func fuels(seed int64, steps, most int) []int {
	r := rand.New(rand.NewSource(seed))
	list := []int{0, 1, min(steps+1, most), most, steps, max(steps-1, 0)}
	for range 4 {
		list = append(list, r.Intn(steps+1))
	}
	slices.Sort(list)
	return list
}

// brief leaves out what is too long to be told.
func brief(r walk.Result) walk.Result {
	r.Out = r.Out[:min(len(r.Out), 20)]
	return r
}

// P7.1: how a source is written plays no part.
func TestGrownShown(t *testing.T) {
	for seed := range int64(300) {
		s, in := grow(seed)
		tree, _, _, err := check.Source(s)
		if err != api.OK {
			t.Fatal(s, err)
		}
		shown := parse.Show(tree)
		r, err := walk.Run(shown, in, 2000)
		if len(shown) > api.MaxText || err == api.ErrDeep {
			continue
		}
		if want := run(t, s, in, 2000); err != api.OK || !isSame(r, want) {
			t.Fatalf("%s\nof %v: %v, %d, but %v", shown, in, r, err, want)
		}
	}
}
