package check_test

import (
	"reflect"
	"strconv"
	"strings"
	"testing"

	"truant/api"
	"truant/check"
	"truant/kind"
	"truant/parse"
)

// sameInfo holds two answers against each other; a list that holds nothing
// may be nil or empty.
func sameInfo(a, b check.Info) bool {
	if !kind.Same(a.Structs, b.Structs) || len(a.Globals) != len(b.Globals) || len(a.Funs) != len(b.Funs) {
		return false
	}
	for i := range a.Globals {
		if a.Globals[i] != b.Globals[i] {
			return false
		}
	}
	for i := range a.Funs {
		one, two := a.Funs[i], b.Funs[i]
		if one.Name != two.Name || one.Result != two.Result || !kind.Same([]api.Struct{{Fields: one.Params}}, []api.Struct{{Fields: two.Params}}) {
			return false
		}
	}
	return true
}

func mustParse(t *testing.T, s string) parse.Node {
	t.Helper()
	n, at, err := parse.Parse(s)
	if err != api.OK {
		t.Fatalf("Parse(%q): place %d, error %d", s, at, err)
	}
	return n
}

// wantRight answers what the source declares, of Check and Source alike.
func wantRight(t *testing.T, s string) check.Info {
	t.Helper()
	info, at, err := check.Check(mustParse(t, s))
	if at != 0 || err != api.OK {
		t.Fatalf("Check(%q): place %d, error %d", s, at, err)
	}
	tree, other, at, err := check.Source(s)
	if at != 0 || err != api.OK {
		t.Fatalf("Source(%q): place %d, error %d", s, at, err)
	}
	if !sameInfo(info, other) {
		t.Fatalf("Source(%q) declares %v, but Check %v", s, other, info)
	}
	wantSame(t, tree, mustParse(t, s), true)
	return info
}

// wantWrong holds Source, and Check where there is a tree, against a place and
// an error.
func wantWrong(t *testing.T, s string, at int, want api.Errno) {
	t.Helper()
	tree, info, place, err := check.Source(s)
	if place != at || err != want {
		t.Errorf("Source(%q): place %d, error %d; want %d, %d", s, place, err, at, want)
	}
	if tree != (parse.Node{}) || !isNothing(info) {
		t.Errorf("Source(%q): something beside error %d", s, err)
	}
	n, _, err := parse.Parse(s)
	if err != api.OK {
		return
	}
	info, place, err = check.Check(n)
	if place != at || err != want {
		t.Errorf("Check(%q): place %d, error %d; want %d, %d", s, place, err, at, want)
	}
	if !isNothing(info) {
		t.Errorf("Check(%q): something beside error %d", s, err)
	}
}

func isNothing(info check.Info) bool {
	return len(info.Structs) == 0 && len(info.Globals) == 0 && len(info.Funs) == 0
}

// wantAt takes a source with a $ right ahead of the place that is wrong.
func wantAt(t *testing.T, marked string, want api.Errno) {
	t.Helper()
	at := strings.Index(marked, "$")
	if at < 0 || strings.Count(marked, "$") != 1 {
		t.Fatalf("no mark, or several, in %q", marked)
	}
	wantWrong(t, strings.Replace(marked, "$", "", 1), at, want)
}

// wantSame holds two trees against each other.
func wantSame(t *testing.T, a, b parse.Node, withPlaces bool) {
	t.Helper()
	if a.Op() != b.Op() || a.Name() != b.Name() || a.Type() != b.Type() || a.N() != b.N() || a.Kids() != b.Kids() || withPlaces && a.At() != b.At() {
		t.Fatalf("%s is not %s", parse.Show(a), parse.Show(b))
	}
	for i := range a.Kids() {
		wantSame(t, a.Kid(i), b.Kid(i), withPlaces)
	}
}

// head declares what the statements of tests speak of: globals i, b, p and q,
// funcs that answer each type, and takers that take it.
const head = `
type T struct { n int; c bool; t *T; u *U; }
type U struct { m int; t *T; }
type E struct { }
var i int;
var b bool;
var p *T;
var q *U;
func none() { }
func int1() int { return 1; }
func bool1() bool { return true; }
func t1() *T { return nil; }
func u1() *U { return nil; }
func takeInt(x int) { }
func takeBool(x bool) { }
func takeT(x *T) { }
func takeU(x *U) { }
func takeE(x *E) { }
func two(x int, y *T) bool { return y != nil; }
`

func inMain(statements string) string { return head + "func main() {" + statements + "}" }

func wantMainRight(t *testing.T, statements string) {
	t.Helper()
	wantRight(t, inMain(statements))
}

func wantMain(t *testing.T, marked string, want api.Errno) {
	t.Helper()
	wantAt(t, inMain(marked), want)
}

// takers are the funcs of head that take one type.
func takers() map[string]string {
	return map[string]string{"int": "takeInt", "bool": "takeBool", "*T": "takeT", "*U": "takeU", "*E": "takeE"}
}

// wantType holds the type of an expression against what fits it, and what is
// defined by it against what fits that; nil and no type ("") can't be defined.
func wantType(t *testing.T, expr, typ string) {
	t.Helper()
	for other, taker := range takers() {
		fits := typ == other || typ == "nil" && strings.HasPrefix(other, "*")
		if fits {
			wantMainRight(t, taker+"("+expr+");")
		} else {
			wantMain(t, "$"+taker+"("+expr+");", api.ErrType)
		}
		switch {
		case typ == "nil" || typ == "":
			wantMain(t, "$v := "+expr+";", api.ErrType)
		case fits:
			wantMainRight(t, "v := "+expr+"; "+taker+"(v);")
		default:
			wantMain(t, "v := "+expr+"; $"+taker+"(v);", api.ErrType)
		}
	}
}

func TestExamples(t *testing.T) {
	wantWrong(t, "func main() { x := 1; x := 2; }", 22, api.ErrTwice)
	wantRight(t, "func main() { x := 1; x = 2; }")
}

// P5.1: what a program that is right declares, in order.
func TestInfo(t *testing.T) {
	info := wantRight(t, `
		func z(a int, b bool, c *B, d *A) *A { e := d; return e; }
		var y bool;
		type B struct { y int; z bool; }
		func main() { }
		var g *B;
		type A struct { a *A; b *B; main int; }
		var a int;
		func f() int { return 1; }
		type C struct { }
		func b(g bool) bool { return g; }
	`)
	want := check.Info{
		Structs: []api.Struct{
			{Name: "B", Fields: []api.Field{{Name: "y", Type: "int"}, {Name: "z", Type: "bool"}}},
			{Name: "A", Fields: []api.Field{{Name: "a", Type: "*A"}, {Name: "b", Type: "*B"}, {Name: "main", Type: "int"}}},
			{Name: "C"},
		},
		Globals: []api.Field{{Name: "y", Type: "bool"}, {Name: "g", Type: "*B"}, {Name: "a", Type: "int"}},
		Funs: []check.Sig{
			{Name: "z", Params: []api.Field{{Name: "a", Type: "int"}, {Name: "b", Type: "bool"}, {Name: "c", Type: "*B"}, {Name: "d", Type: "*A"}}, Result: "*A"},
			{Name: "main"},
			{Name: "f", Result: "int"},
			{Name: "b", Params: []api.Field{{Name: "g", Type: "bool"}}, Result: "bool"},
		},
	}
	if !sameInfo(info, want) {
		t.Errorf("declares %v, want %v", info, want)
	}
	info = wantRight(t, "func main(){}")
	if !sameInfo(info, check.Info{Funs: []check.Sig{{Name: "main"}}}) {
		t.Errorf("declares %v", info)
	}
}

// P5.1: what is no Program.
func TestOtherNodes(t *testing.T) {
	refuse := func(n parse.Node) {
		t.Helper()
		info, at, err := check.Check(n)
		if at != 0 || err != api.ErrForm || !isNothing(info) {
			t.Errorf("Check of op %d: %v, place %d, error %d", n.Op(), info, at, err)
		}
	}
	refuse(parse.Node{})
	seen := map[int]int{}
	var each func(n parse.Node)
	each = func(n parse.Node) {
		for i := range n.Kids() {
			refuse(n.Kid(i))
			seen[n.Kid(i).Op()]++
			each(n.Kid(i))
		}
	}
	each(mustParse(t, inMain(`
		x := 1 + 2; x = -read(); p.n = p.t.n; if b && true || nil == p { } else { } for b { } print(int1()); none(); q = new(U); return;
	`)))
	for op := parse.Struct; op <= parse.Either; op++ {
		if seen[op] == 0 {
			t.Errorf("no node of op %d", op)
		}
	}
	// A program's nodes that aren't right are no more than others.
	refuse(mustParse(t, "func f() { x = 1; }").Kid(0))
}

// P5.1: what Parse refuses.
func TestRefused(t *testing.T) {
	wantWrong(t, "var x", 5, api.ErrForm)
	wantWrong(t, "func main() { x := 01; }", 19, api.ErrForm)
	wantWrong(t, "func main() { x := 9223372036854775808; }", 19, api.ErrRange)
	wantWrong(t, "func main() { abcdefghijklm := 1; }", 14, api.ErrFull)
	wantWrong(t, strings.Repeat(" ", 4097), 4096, api.ErrFull)
	wantWrong(t, "func main() {"+strings.Repeat("if true {", 40), 13+40*9-1, api.ErrDeep)
	wantWrong(t, "var x int; var x int; }", 22, api.ErrForm)
	wantWrong(t, "\xff", 0, api.ErrForm)
	wantWrong(t, "func main() { 1 = 2; }", 16, api.ErrForm)
	wantWrong(t, "func main() { x = new(int); }", 22, api.ErrForm)
}

// P5.1, rule 4.
func TestMain(t *testing.T) {
	for _, s := range []string{
		"", "  // nothing\n", "func f() { }", "var main int;", "type main struct { }", "func Main() { }", "func main_() { }",
		"func main() int { return 1; }", "func main(a int) { }", "func main(a int, b bool) bool { return b; }",
		"type T struct { } func f() { } func main() *T { return nil; }",
		"type main struct { main int; } func f(main int) { main = 1; }",
		"func f() { main := 1; print(main); }",
	} {
		wantWrong(t, s, 0, api.ErrMain)
	}
	wantRight(t, "func f() { main(); } func main() { f(); main(); }")
	wantRight(t, "type T struct { main int; } func main() { main := new(T); main.main = 1; }")
	wantRight(t, "func f(main int) { main = 1; } func main() { }")
}

// P5.1, rule 1: no two declarations of one name.
func TestNames(t *testing.T) {
	all := []string{"type %x struct { }", "var %x int;", "func %x() { }"}
	for _, one := range all {
		for _, two := range all {
			wantAt(t, "func main() { } "+strings.Replace(one, "%", "", 1)+" var y int; "+strings.Replace(two, "%", "$", 1), api.ErrTwice)
			wantRight(t, "func main() { } "+strings.Replace(one, "%", "", 1)+" var y int; "+strings.Replace(two, "%x", "X", 1))
		}
	}
	wantAt(t, "func main() { } var $main int;", api.ErrTwice)
	wantAt(t, "var x int; var y int; var $y int; var x int;", api.ErrTwice)
	wantRight(t, "var x int; type T struct { x int; T int; f int; } func f(x int, f int, T int) { f = x + T; } func main() { f(1, 2, 3); x := true; x = false; }")
}

func names(prefix string, count int) []string {
	var list []string
	for i := range count {
		list = append(list, prefix+strconv.Itoa(i))
	}
	return list
}

// many is count declarations, each by its form with a name for the %; a mark
// stands ahead of the name at the place mark.
func many(form, prefix string, count, mark int) string {
	var list []string
	for i, name := range names(prefix, count) {
		if i == mark {
			name = "$" + name
		}
		list = append(list, strings.Replace(form, "%", name, 1))
	}
	return strings.Join(list, "\n")
}

// P5.1, rule 1: how many there may be.
func TestManyDeclarations(t *testing.T) {
	const main = "\nfunc main() { }\n"
	forms := []struct {
		form string
		most int
	}{{"type % struct { }", 12}, {"var % int;", 12}, {"func %() { }", 23}}
	for _, f := range forms {
		info := wantRight(t, many(f.form, "x", f.most, -1)+main)
		if len(info.Structs)+len(info.Globals)+len(info.Funs) != f.most+1 {
			t.Error(info)
		}
		wantAt(t, main+many(f.form, "x", f.most+1, f.most), api.ErrFull)
		wantAt(t, main+many(f.form, "x", f.most+3, f.most), api.ErrFull)
	}
	wantAt(t, many("func %() { }", "x", 24, -1)+"func $main() { }", api.ErrFull)
	wantWrong(t, many("func %() { }", "x", 24, -1), 0, api.ErrMain)
	full := many(forms[0].form, "x", 12, -1) + many(forms[1].form, "y", 12, -1) + many(forms[2].form, "z", 23, -1) + main
	info := wantRight(t, full)
	if len(info.Structs) != 12 || len(info.Globals) != 12 || len(info.Funs) != 24 {
		t.Error(info)
	}
	// The other kinds stand between, and aren't counted.
	mixed := ""
	for _, k := range names("", 12) {
		mixed += "type A" + k + " struct { } var B" + k + " int; func C" + k + "() { }\n"
	}
	wantRight(t, mixed+main)
	wantAt(t, mixed+main+"type $A struct { }", api.ErrFull)
	wantAt(t, mixed+main+"var $B int;", api.ErrFull)
	wantRight(t, mixed+main+"func C() { }")
	// A name that is there already counts ahead of too many.
	wantAt(t, many("var % int;", "x", 12, -1)+"var $x3 int; var y int;", api.ErrTwice)
	wantAt(t, many("var % int;", "x", 12, -1)+"var $y int; var x3 int;", api.ErrFull)
	wantAt(t, many("var % int;", "x", 12, -1)+"type $x3 struct { } var y int;", api.ErrTwice)
}

// P5.1, rule 2: fields and Parts.
func TestParts(t *testing.T) {
	const main = " func main() { }"
	parts := func(count, mark int) string {
		return strings.ReplaceAll(many("% int", "x", count, mark), "\n", ", ")
	}
	wantRight(t, "type T struct {"+many("% int;", "x", 8, -1)+"}"+main)
	wantAt(t, "type T struct {"+many("% int;", "x", 9, 8)+"}"+main, api.ErrFull)
	wantAt(t, "type T struct {"+many("% int;", "x", 12, 8)+"}"+main, api.ErrFull)
	wantRight(t, "func f("+parts(6, -1)+") { }"+main)
	wantAt(t, "func f("+parts(7, 6)+") { }"+main, api.ErrFull)
	wantAt(t, "func f("+parts(9, 6)+") { }"+main, api.ErrFull)

	wantAt(t, "type T struct { a int; b int; $a bool; }"+main, api.ErrTwice)
	wantAt(t, "func f(a int, b int, $b int) { }"+main, api.ErrTwice)
	wantRight(t, "type T struct { a int; b int; } type U struct { a int; b int; } func f(a int, b int) { } func g(a int, b int) { }"+main)

	wantAt(t, "var $x *U;"+main, api.ErrName)
	wantAt(t, "type T struct { a int; $b *U; }"+main, api.ErrName)
	wantAt(t, "func f(a int, $b *U) { }"+main, api.ErrName)
	wantAt(t, "func $f(a int) *U { return nil; }"+main, api.ErrName)
	wantAt(t, "func $main() *U { return nil; }", api.ErrName)
	for _, other := range []string{"var U int;", "func U() { }"} {
		wantAt(t, other+"var $x *U;"+main, api.ErrName)
		wantAt(t, other+"type T struct { $b *U; }"+main, api.ErrName)
		wantAt(t, other+"func f($b *U) { }"+main, api.ErrName)
		wantAt(t, other+"func $f() *U { }"+main, api.ErrName)
	}
	// Structs may stand behind those that lead to them.
	wantRight(t, "var x *U; type T struct { b *U; t *T; } func f(b *U) *U { return b; } type U struct { }"+main)
	wantRight(t, "func f(a int) int { return a; } func g(a bool) bool { return a; } var x int; var y bool;"+main)
}

// P5.1, rule 2: which of several counts.
func TestPartsInOrder(t *testing.T) {
	eight := many("% int;", "x", 8, -1)
	wantAt(t, "type T struct {"+eight+"$x0 *U; }", api.ErrFull)
	wantAt(t, "type T struct {"+eight+"$y *U; x0 int; }", api.ErrFull)
	wantAt(t, "type T struct { x int; $x *U; }", api.ErrTwice)
	wantAt(t, "type T struct { $x *U; x int; }", api.ErrName)
	wantAt(t, "type T struct { $x *U; x *U;"+eight+"}", api.ErrName)
	wantAt(t, "func f(a int, b int, c int, d int, e int, f int, $a *U) *V { }", api.ErrFull)
	wantAt(t, "func f(a int, $a *U) *V { }", api.ErrTwice)
	wantAt(t, "func f($a *U, a int) *V { }", api.ErrName)
	wantAt(t, "func f(a int, a2 int, $a *U) *V { }", api.ErrTwice)
	wantAt(t, "func $f(a int) *V { } var x *U;", api.ErrName)
	wantAt(t, "var $x *U; type T struct { a int; a int; } func f() *V { }", api.ErrName)
	wantAt(t, "type T struct { a int; $a int; } var x *U; func f() *V { }", api.ErrTwice)
	wantAt(t, "func $f() *V { } type T struct { a int; a int; } var x *U;", api.ErrName)
	wantAt(t, "func f(a int, $a int) *V { } type T struct { a int; a int; } var x *U;", api.ErrTwice)
}

// P5.1: which rule counts where several are broken.
func TestRulesInOrder(t *testing.T) {
	const one, two, three = " var %x int;", " var %y *U;", " func f() { %z = 1; }"
	mark := func(s string, which int) string {
		for i := range 3 {
			by := ""
			if i == which {
				by = "$"
			}
			s = strings.Replace(s, "%"+string("xyz"[i]), by+string("xyz"[i]), 1)
		}
		return s
	}
	orders := [][3]string{{one, two, three}, {one, three, two}, {two, one, three}, {two, three, one}, {three, one, two}, {three, two, one}}
	for _, o := range orders {
		all := o[0] + o[1] + o[2]
		// No main is there, so that rule 4 is broken too.
		wantAt(t, "type x struct { }"+mark(all, 0), api.ErrTwice)
		wantAt(t, mark(all, 1), api.ErrName)
		right := strings.Replace(all, "*U", "int", 1)
		wantAt(t, mark(right, 2), api.ErrName)
		right = strings.Replace(right, "%z", "x", 1)
		wantWrong(t, strings.ReplaceAll(right, "%", ""), 0, api.ErrMain)
		wantRight(t, strings.ReplaceAll(right, "%", "")+"func main() { }")
	}
	wantAt(t, "func main(a int) { $b = 1; }", api.ErrName)
	wantAt(t, "func main() int { $return; }", api.ErrType)
	wantAt(t, "func f() { $a = 1; } func g() { print(true); } func main() { }", api.ErrName)
	wantAt(t, "func f() { } func g() { $print(true); } func h() { a = 1; } func main() { }", api.ErrType)
}

// P5.2: also of lists that no program has.
func TestFind(t *testing.T) {
	info := wantRight(t, "type T struct { x int; } var a int; var b bool; func f(p int) { } func main() { q := 1; q = 2; } func g() { }")
	find := func(got int, is bool, want int, wantIs bool, what string) {
		t.Helper()
		if got != want || is != wantIs {
			t.Errorf("%s: %d, %t", what, got, is)
		}
	}
	for at, name := range []string{"f", "main", "g"} {
		got, is := info.Fun(name)
		find(got, is, at, true, "Fun "+name)
		got, is = info.Global(name)
		find(got, is, 0, false, "Global "+name)
	}
	for at, name := range []string{"a", "b"} {
		got, is := info.Global(name)
		find(got, is, at, true, "Global "+name)
		got, is = info.Fun(name)
		find(got, is, 0, false, "Fun "+name)
	}
	for _, name := range []string{"T", "x", "p", "q", "", "A", "mai", "main2", "int", "*T", "\xff"} {
		got, is := info.Fun(name)
		find(got, is, 0, false, "Fun "+name)
		got, is = info.Global(name)
		find(got, is, 0, false, "Global "+name)
	}
	raw := check.Info{
		Globals: []api.Field{{Name: "x"}, {Name: ""}, {Name: "a b"}, {Name: "x", Type: "int"}, {Name: ""}},
		Funs:    []check.Sig{{Name: "y"}, {Name: "x"}, {Name: "x", Result: "?"}, {Name: ""}},
	}
	for name, at := range map[string]int{"x": 0, "": 1, "a b": 2} {
		got, is := raw.Global(name)
		find(got, is, at, true, "Global "+name)
	}
	for name, at := range map[string]int{"y": 0, "x": 1, "": 3} {
		got, is := raw.Fun(name)
		find(got, is, at, true, "Fun "+name)
	}
	got, is := check.Info{}.Fun("")
	find(got, is, 0, false, "Fun of nothing")
	got, is = check.Info{}.Global("")
	find(got, is, 0, false, "Global of nothing")
}

// P5.3: the structs of a program that is right can be.
func TestStructsCanBe(t *testing.T) {
	for _, s := range []string{
		"func main() { }", inMain(""),
		many("type % struct { a *x11; b *x0; c int; d bool; e *x1; f *x2; g *x3; h *x4; }", "x", 12, -1) + "func main() { }",
	} {
		info := wantRight(t, s)
		if at, err := kind.Check(info.Structs); at != 0 || err != api.OK {
			t.Errorf("%q: struct %d: %d", s, at, err)
		}
	}
}

// P5.3: how a source is written plays no part.
func TestShown(t *testing.T) {
	for _, s := range []string{
		inMain("x := 1+2*3; if b&&x<i||!b { x := p.t.u; print(-x.m); } else if p==nil { return; } for(b) { p.t = new(T); } none();"),
		inMain("x := (1+2)*true;"), inMain("if ((1)) { }"), inMain("p . n\n=\ntrue;"), inMain("x := 1; x := 2;"), inMain("print(y);"),
		"var x *T;", "var x int; func x() { }", "func main(a int) { }",
	} {
		shown := parse.Show(mustParse(t, s))
		_, first, _, one := check.Source(s)
		_, second, _, two := check.Source(shown)
		if one != two || !sameInfo(first, second) {
			t.Errorf("%q: error %d, but shown %d", s, one, two)
		}
	}
}

// Rule 3 that holds everywhere: what is answered is new memory, and no two
// lists of it share any, spare room neither.
func TestNewMemory(t *testing.T) {
	n := mustParse(t, head+"func main() { }")
	info, _, _ := check.Check(n)
	again, _, _ := check.Check(n)
	var lists []*[]api.Field
	for i := range info.Structs {
		lists = append(lists, &info.Structs[i].Fields)
	}
	lists = append(lists, &info.Globals)
	for i := range info.Funs {
		lists = append(lists, &info.Funs[i].Params)
	}
	for place, list := range lists {
		whole := (*list)[:cap(*list)]
		for i := range whole {
			whole[i] = api.Field{Name: strconv.Itoa(place), Type: strconv.Itoa(i)}
		}
	}
	for place, list := range lists {
		for i, field := range (*list)[:cap(*list)] {
			if field.Name != strconv.Itoa(place) || field.Type != strconv.Itoa(i) {
				t.Fatalf("list %d shares memory", place)
			}
		}
	}
	for i := range info.Structs {
		info.Structs[i].Name = "?"
	}
	for i := range info.Funs {
		info.Funs[i].Name = "?"
	}
	third, _, _ := check.Check(n)
	if !reflect.DeepEqual(again, third) || !sameInfo(again, wantRight(t, head+"func main() { }")) {
		t.Error("another answer was changed")
	}
}
