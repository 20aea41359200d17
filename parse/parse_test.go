package parse_test

import (
	"fmt"
	"slices"
	"strconv"
	"strings"
	"testing"

	"truant/api"
	"truant/lex"
	"truant/num"
	"truant/parse"
)

const (
	least    = -1 << 63
	greatest = 1<<63 - 1
)

func opNames() []string {
	return strings.Fields("Zero Program Struct Global Func Part Block Define Assign Put If For Print Return Do " +
		"Number Truth None Var Make Field Call Input Unary Binary Both Either")
}

// tell is a whole tree as a text: each node's op, name, type and number (if
// it has one), its place behind @, and its kids in brackets.
func tell(n parse.Node) string {
	text := opNames()[n.Op()]
	if n.Name() != "" {
		text += " " + n.Name()
	}
	if n.Type() != "" {
		text += " " + n.Type()
	}
	switch n.Op() {
	case parse.Number, parse.Truth:
		text += " " + strconv.Itoa(n.N())
	case parse.Unary, parse.Binary:
		text += " " + num.Sign(n.N())
	default:
		if n.N() != 0 {
			text += " stray " + strconv.Itoa(n.N())
		}
	}
	text += "@" + strconv.Itoa(n.At())
	if n.Kids() == 0 {
		return text
	}
	var kids []string
	for i := range n.Kids() {
		kids = append(kids, tell(n.Kid(i)))
	}
	return text + "[" + strings.Join(kids, " ") + "]"
}

func mustParse(t *testing.T, s string) parse.Node {
	t.Helper()
	n, at, err := parse.Parse(s)
	if err != api.OK || at != 0 {
		t.Fatalf("Parse(%q): place %d, error %d", s, at, err)
	}
	return n
}

func wantTree(t *testing.T, s, want string) {
	t.Helper()
	if got := tell(mustParse(t, s)); got != want {
		t.Errorf("Parse(%q)\n is   %s\n want %s", s, got, want)
	}
}

func wantWrong(t *testing.T, s string, at int, want api.Errno) {
	t.Helper()
	n, place, err := parse.Parse(s)
	if place != at || err != want {
		t.Errorf("Parse(%q): place %d, error %d; want %d, %d", s, place, err, at, want)
	}
	if n != (parse.Node{}) {
		t.Errorf("Parse(%q): a tree beside error %d", s, err)
	}
}

// wantMisfit takes a source with a $ ahead of the token that doesn't fit; a
// blank stands there instead, so that tokens don't become one.
func wantMisfit(t *testing.T, marked string) {
	t.Helper()
	at := strings.Index(marked, "$")
	if at < 0 {
		t.Fatalf("no mark in %q", marked)
	}
	wantWrong(t, strings.Replace(marked, "$", " ", 1), at+1, api.ErrForm)
}

// inBody lays statements into a function's block.
func inBody(statements string) string { return "func f(){" + statements + "}" }

// wantBody's statements begin at the place 9.
func wantBody(t *testing.T, statements, want string) {
	t.Helper()
	wantTree(t, inBody(statements), "Program@0[Func f@5[Block@8["+want+"]]]")
}

// wantExpr's expression begins at the place 11.
func wantExpr(t *testing.T, expr, want string) {
	t.Helper()
	wantBody(t, "x="+expr+";", "Assign x@9["+want+"]")
}

// P4.1, P4.2: the numbers of the ops are the document's.
func TestOps(t *testing.T) {
	list := []int{
		parse.Program, parse.Struct, parse.Global, parse.Func, parse.Part, parse.Block, parse.Define, parse.Assign,
		parse.Put, parse.If, parse.For, parse.Print, parse.Return, parse.Do, parse.Number, parse.Truth, parse.None,
		parse.Var, parse.Make, parse.Field, parse.Call, parse.Input, parse.Unary, parse.Binary, parse.Both, parse.Either,
	}
	if len(list) != 26 {
		t.Fatal(len(list))
	}
	for i, op := range list {
		if op != i+1 {
			t.Errorf("%s is %d", opNames()[i+1], op)
		}
	}
}

// P4.1, P4.2
func TestDeclarations(t *testing.T) {
	for _, c := range []struct{ s, want string }{
		{"", "Program@0"},
		{" \n\t\r// nothing", "Program@0"},
		{"type T struct { }", "Program@0[Struct T@5]"},
		{"type T struct{a int;b bool;c*U;}", "Program@0[Struct T@5[Part a int@14 Part b bool@20 Part c *U@27]]"},
		{"  var g int;", "Program@0[Global g int@6]"},
		{"var g bool; var h * T ;", "Program@0[Global g bool@4 Global h *T@16]"},
		{"func f(){}", "Program@0[Func f@5[Block@8]]"},
		{"func f() int {}", "Program@0[Func f int@5[Block@13]]"},
		{"func f()*T{}", "Program@0[Func f *T@5[Block@10]]"},
		{"func f(a int){}", "Program@0[Func f@5[Part a int@7 Block@13]]"},
		{"func f(a int,b bool , c *T) bool { }", "Program@0[Func f bool@5[Part a int@7 Part b bool@13 Part c *T@22 Block@33]]"},
		{"func f(){}var g int;type T struct{}func h(){}", "Program@0[Func f@5[Block@8] Global g int@14 Struct T@25 Func h@40[Block@43]]"},
		{"type T struct{a int;a bool;}var T int;var T*T;func T(T int,T int)*X{}func T(){}",
			"Program@0[Struct T@5[Part a int@14 Part a bool@20] Global T int@32 Global T *T@42 Func T *X@51[Part T int@53 Part T int@59 Block@67] Func T@74[Block@77]]"},
	} {
		wantTree(t, c.s, c.want)
	}
}

// P4.1, P4.2
func TestStatements(t *testing.T) {
	for _, c := range []struct{ s, want string }{
		{"x:=1;", "Define x@9[Number 1@12]"},
		{"x = 1 ;", "Assign x@9[Number 1@13]"},
		{"x.y=1;", "Put y@11[Var x@9 Number 1@13]"},
		{"x . y\n. z=w.v;", "Put z@17[Field y@13[Var x@9] Field v@21[Var w@19]]"},
		{"g();", "Do@9[Call g@9]"},
		{"g(1,x);", "Do@9[Call g@9[Number 1@11 Var x@13]]"},
		{"g(1).y=2;", "Put y@14[Call g@9[Number 1@11] Number 2@16]"},
		{"g().y.z=2;", "Put z@15[Field y@13[Call g@9] Number 2@17]"},
		{"1.y=2;", "Put y@11[Number 1@9 Number 2@13]"},
		{"true.y=2;", "Put y@14[Truth 1@9 Number 2@16]"},
		{"false.y=2;", "Put y@15[Truth 0@9 Number 2@17]"},
		{"nil.y=2;", "Put y@13[None@9 Number 2@15]"},
		{"new(T).y=2;", "Put y@16[Make T@13 Number 2@18]"},
		{"read().y=2;", "Put y@16[Input@9 Number 2@18]"},
		{"(x).y=2;", "Put y@13[Var x@10 Number 2@15]"},
		{"(g()).y=2;", "Put y@15[Call g@10 Number 2@17]"},
		{"(x.y).z=2;", "Put z@15[Field y@12[Var x@10] Number 2@17]"},
		{"(a+b).y=2;", "Put y@15[Binary +@11[Var a@10 Var b@12] Number 2@17]"},
		{"(-a).y=2;", "Put y@14[Unary -@10[Var a@11] Number 2@16]"},
		{"if a{}", "If@9[Var a@12 Block@13]"},
		{"if a{x=1;}else{y=2;}", "If@9[Var a@12 Block@13[Assign x@14[Number 1@16]] Block@23[Assign y@24[Number 2@26]]]"},
		{"if a{}else if b{}", "If@9[Var a@12 Block@13 If@20[Var b@23 Block@24]]"},
		{"if a{}else if b{}else{}", "If@9[Var a@12 Block@13 If@20[Var b@23 Block@24 Block@30]]"},
		{"if a{}if b{}else{}", "If@9[Var a@12 Block@13] If@15[Var b@18 Block@19 Block@25]"},
		{"if a{if b{}}else{}", "If@9[Var a@12 Block@13[If@14[Var b@17 Block@18]] Block@25]"},
		{"for a{}", "For@9[Var a@13 Block@14]"},
		{"for a==b{g();return;}", "For@9[Binary ==@14[Var a@13 Var b@16] Block@17[Do@18[Call g@18] Return@22]]"},
		{"print(a);", "Print@9[Var a@15]"},
		{"print((a));", "Print@9[Var a@16]"},
		{"return;", "Return@9"},
		{"return a;", "Return@9[Var a@16]"},
		{"return(a);", "Return@9[Var a@16]"},
		{"x:=1;x=2;g();", "Define x@9[Number 1@12] Assign x@14[Number 2@16] Do@18[Call g@18]"},
	} {
		wantBody(t, c.s, c.want)
	}
}

// P4.1, P4.2
func TestExpressions(t *testing.T) {
	for _, c := range []struct{ s, want string }{
		{"0", "Number 0@11"},
		{"9223372036854775807", "Number 9223372036854775807@11"},
		{"true", "Truth 1@11"},
		{"false", "Truth 0@11"},
		{"nil", "None@11"},
		{"y", "Var y@11"},
		{"g()", "Call g@11"},
		{"g(a)", "Call g@11[Var a@13]"},
		{"g(a,b+c,(d))", "Call g@11[Var a@13 Binary +@16[Var b@15 Var c@17] Var d@20]"},
		{"g(h(),h(g()))", "Call g@11[Call h@13 Call h@17[Call g@19]]"},
		{"new(T)", "Make T@15"},
		{"new ( T )", "Make T@17"},
		{"read()", "Input@11"},
		{"(y)", "Var y@12"},
		{"((y))", "Var y@13"},
		{"y.a", "Field a@13[Var y@11]"},
		{"y.a.b", "Field b@15[Field a@13[Var y@11]]"},
		{"g().a", "Field a@15[Call g@11]"},
		{"new(T).a", "Field a@18[Make T@15]"},
		{"(y+z).a", "Field a@17[Binary +@13[Var y@12 Var z@14]]"},
		{"1.a", "Field a@13[Number 1@11]"},
		{"-y", "Unary -@11[Var y@12]"},
		{"!y", "Unary !@11[Var y@12]"},
		{"-!- -y", "Unary -@11[Unary !@12[Unary -@13[Unary -@15[Var y@16]]]]"},
		{"-y.a", "Unary -@11[Field a@14[Var y@12]]"},
		{"(-y).a", "Field a@16[Unary -@12[Var y@13]]"},
		{"-g(a)", "Unary -@11[Call g@12[Var a@14]]"},
		{"-y+z", "Binary +@13[Unary -@11[Var y@12] Var z@14]"},
		{"y- -z", "Binary -@12[Var y@11 Unary -@14[Var z@15]]"},
		{"!y&&z", "Both@13[Unary !@11[Var y@12] Var z@15]"},
		{"-(y+z)", "Unary -@11[Binary +@14[Var y@13 Var z@15]]"},
		{"a&&b", "Both@12[Var a@11 Var b@14]"},
		{"a||b", "Either@12[Var a@11 Var b@14]"},
		{"a||b&&c==d+e*-f", "Either@12[Var a@11 Both@15[Var b@14 Binary ==@18[Var c@17 Binary +@21[Var d@20 Binary *@23[Var e@22 Unary -@24[Var f@25]]]]]]"},
		{"a*b+c==d&&e||f", "Either@22[Both@19[Binary ==@16[Binary +@14[Binary *@12[Var a@11 Var b@13] Var c@15] Var d@18] Var e@21] Var f@24]"},
		{"a*(b+c)", "Binary *@12[Var a@11 Binary +@15[Var b@14 Var c@16]]"},
		{"a-(b-c)", "Binary -@12[Var a@11 Binary -@15[Var b@14 Var c@16]]"},
	} {
		wantExpr(t, c.s, c.want)
	}
}

// levels is written out here, so that it hangs on no other package.
func levels() map[string]int {
	list := map[string]int{}
	for level, signs := range []string{"", "||", "&&", "== != < <= > >=", "+ - | ^", "* / % << >> &"} {
		for _, sign := range strings.Fields(signs) {
			list[sign] = level
		}
	}
	return list
}

// head is how tell writes a binary node of that sign.
func head(sign string, at int) string {
	switch sign {
	case "&&":
		return "Both@" + strconv.Itoa(at)
	case "||":
		return "Either@" + strconv.Itoa(at)
	}
	return "Binary " + sign + "@" + strconv.Itoa(at)
}

// P4.1, P4.2: each sign, and each two of them, by their levels.
func TestLevels(t *testing.T) {
	all := levels()
	if len(all) != 18 {
		t.Fatal(len(all))
	}
	for one, oneLevel := range all {
		behind := 14 + len(one)
		alone := fmt.Sprintf("%s[Var a@11 Var b@%d]", head(one, 13), behind)
		wantExpr(t, "a "+one+" b", alone)
		for two, twoLevel := range all {
			at := behind + 2
			last := fmt.Sprintf("Var c@%d", at+1+len(two))
			want := fmt.Sprintf("%s[%s %s]", head(two, at), alone, last)
			if oneLevel < twoLevel {
				want = fmt.Sprintf("%s[Var a@11 %s[Var b@%d %s]]", head(one, 13), head(two, at), behind, last)
			}
			wantExpr(t, "a "+one+" b "+two+" c", want)
		}
	}
}

// P4.1: many of one level bind from the left.
func TestFromTheLeft(t *testing.T) {
	byLevel := map[int][]string{}
	for sign, level := range levels() {
		byLevel[level] = append(byLevel[level], sign)
	}
	for _, signs := range byLevel {
		slices.Sort(signs)
		s, want := "a", "a"
		for range 4 {
			for _, sign := range signs {
				s += " " + sign + " b"
				want = "( " + want + " " + sign + " b )"
			}
		}
		if got := parse.Show(mustParse(t, inBody("x="+s+";"))); got != "func f ( ) { x = "+want+" ; }" {
			t.Errorf("%s is %s", s, got)
		}
	}
}

// P4.1: each place of the declarations' rules, by hand.
func TestMisfitsOfDeclarations(t *testing.T) {
	for _, marked := range []string{
		"$x", "$1", "$;", "$}", "$struct", "$if x{}", "$print(1);", "var g int;$;", "func f(){}$}", "type T struct{}$;",

		"type $", "type $1", "type $int struct{}", "type T $", "type T $T", "type T $int", "type T ${}",
		"type T struct $", "type T struct $(", "type T struct $x",
		"type T struct{$", "type T struct{$;}", "type T struct{$int x;}", "type T struct{$new int;}",
		"type T struct{x$", "type T struct{x$;}", "type T struct{x$,y int;}", "type T struct{x $T;}", "type T struct{x $nil;}",
		"type T struct{x *$", "type T struct{x *$int;}", "type T struct{x *$*T;}", "type T struct{x *$struct;}",
		"type T struct{x int$", "type T struct{x int$}", "type T struct{x int$,}", "type T struct{x *T$}",
		"type T struct{x int;$", "type T struct{x int;$;}", "type T struct{x int;$)",

		"var $", "var $;", "var $int int;", "var $read int;", "var $1 int;", "var g$", "var g$;", "var g $T;", "var g $struct{};",
		"var g *$", "var g *$;", "var g *$bool;", "var g int$", "var g int$=1;", "var g int$,", "var g*T$.x;",

		"func $", "func $(", "func $print(){}", "func $1(){}", "func f$", "func f${}", "func f$;", "func f$int{}",
		"func f($", "func f($,", "func f($int", "func f($;){}", "func f($*T){}", "func f(a$", "func f(a$)", "func f(a$,b int)",
		"func f(a $T)", "func f(a *$)", "func f(a int$", "func f(a int$;)", "func f(a int$b int)", "func f(a int${}",
		"func f(a int,$", "func f(a int,$){}", "func f(a int,$,", "func f(a int,$int", "func f(a int,b$)",
		"func f()$", "func f()$;", "func f()$T{}", "func f()$(int){}", "func f()$nil{}", "func f()*$", "func f()*$int", "func f()*${}",
		"func f()int$", "func f()int$;", "func f()int$bool", "func f()*T$*T{}", "func f()*T$",

		"func f(){$", "func f(){$;}", "func f(){$,}", "func f(){${}}", "func f(){$else{}}", "func f(){$type T struct{}}",
		"func f(){$var g int;}", "func f(){$func g(){}}", "func f(){$=1;}", "func f(){$int=1;}", "func f(){$)",
	} {
		wantMisfit(t, marked)
	}
}

// wantMisfitIn takes a mark at the very end as that of a source that ends
// there, which the end of a block would hide.
func wantMisfitIn(t *testing.T, marked string) {
	t.Helper()
	if strings.HasSuffix(marked, "$") {
		wantMisfit(t, "func f(){"+marked)
		return
	}
	wantMisfit(t, inBody(marked))
}

// P4.1: each place of the statements' rules, by hand.
func TestMisfitsOfStatements(t *testing.T) {
	for _, marked := range []string{
		"x$", "x$;", "x$}", "x$+1;", "x$y;", "x$1;", "x$==1;", "x$,y=1;", "x${}", "x$!;",
		"x:=$", "x:=$;", "x:=$=1;", "x:=1$", "x:=1$}", "x:=1$,2;", "x:=1$:=2;", "$int:=1;",
		"x=$", "x=$;", "x=$)", "x=1$", "x=1$}", "x=1$=2;", "x=y$:=2;", "x=y$=2;", "x=y.z$=2;", "$else=1;",

		"x.$", "x.$;", "x.$1=1;", "x.$int=1;", "x.$(y)=1;", "x.y$", "x.y$;", "x.y$:=1;", "x.y$();", "x.y$+1;", "x.y$}",
		"x.y.$", "x.y.$new=1;", "x.y.z$;", "x.y=$", "x.y=$;", "x.y=1$", "x.y=1$}", "x.y=1$=2;",
		"$-x=1;", "$-x.y=1;", "$!x.y=1;", "$-g();", "$*p=1;", "a$+b.c=1;", "a$&&b.c=1;", "g()$+b.c=1;", "a.b$*c.d=1;",
		"(x)$", "(x)$=1;", "(x)$:=1;", "(x)$;", "(x)$(1);", "((x))$=1;", "(g())$;", "(x.y)$=1;", "(x+1)$=1;", "(x).$", "(x).y$;", "(x).y$:=1;",
		"1$", "1$=2;", "1$;", "1$:=2;", "1$+x;", "1$+x=2;", "true$=1;", "false$;", "nil$;", "nil$=x;",
		"new(T)$;", "new(T)$=1;", "read()$;", "read()$=1;", "x$+y=1;",

		"g()$", "g()$}", "g()$=1;", "g()$:=1;", "g()$,", "g()$+1;", "g()$g();", "g()$();", "g().$", "g().$;", "g().x$;", "g().x$:=1;", "g().x$();",

		"if$", "if${}", "if$;", "if $else{}", "if x$", "if x$;", "if x$x=1;", "if x$=1{}", "if x$:=1{}", "if x$if y{}",
		"if x{$", "if x{}$;", "if x{}else$", "if x{}else$;", "if x{}else$x=1;", "if x{}else$for x{}", "if x{}else$else{}", "if x{}else$(y){}",
		"if x{}else{$", "if x{}else{}$else{}", "if x{}else if$", "if x{}else if${}", "if x{}else if y$;", "if x{}else if y{}else$;",
		"for$", "for${}", "for$;", "for x$", "for x$;", "for x$=1{}", "for x$:=1{}", "for x{$", "for x{}$else{}", "for x{}$;", "for x$for x{}",

		"print$", "print$1;", "print$;", "print$x;", "print$=1;", "print($", "print($);", "print($;", "print(1$", "print(1$;", "print(1$,2);", "print(1$=2);",
		"print(1)$", "print(1)$}", "print(1)$.x=1;", "print(1)$+1;",
		"return$", "return$}", "return$=1;", "return 1$", "return 1$}", "return 1$,2;", "return x$:=1;", "return$return;", "return $if x{}",
	} {
		wantMisfitIn(t, marked)
	}
}

// P4.1: each place of the expressions' rules, by hand.
func TestMisfitsOfExpressions(t *testing.T) {
	for _, marked := range []string{
		"x=$if;", "x=$type;", "x=$int;", "x=$print(1);", "x=$*p;", "x=$&p;", "x=$.y;", "x=${};",
		"x=1$2;", "x=y$z;", "x=1$(2);", "x=1$!2;", "x=g()$(1);", "x=y.z$();", "x=nil$nil;", "x=true$(1);", "x=nil$();", "x=(y)$(1);",
		"x=1+$", "x=1+$;", "x=1+$*2;", "x=1+$+2;", "x=1-$&&2;", "x=a&&$;", "x=a||$||b;", "x=a==$=b;", "x=a<$>b;", "x=a$:=b;",
		"x=-$", "x=-$;", "x=-$)", "x=!$;", "x=!$=1;", "x=-$*1;", "x=- -$+1;", "x=-$if;",
		"x=y.$", "x=y.$;", "x=y.$1;", "x=y.$nil;", "x=y.$-z;", "x=y.$(z);",
		"x=($", "x=($);", "x=(1$", "x=(1$;", "x=(1$,2);", "x=(1$=2);", "x=(1+$);", "x=(1)$)", "x=1$);",
		"x=new$", "x=new$T;", "x=new$;", "x=new($", "x=new($);", "x=new($int);", "x=new($*T);", "x=new($1);", "x=new($(T));", "x=new(T$", "x=new(T$,1);", "x=new(T$.x);", "x=new(T$();",
		"x=read$", "x=read$;", "x=read($", "x=read($1);", "x=read($x);",
		"g($", "g($;", "g($,1);", "g(1$", "g(1$;", "g(1$}", "g(1$2);", "g(1,$", "g(1,$);", "g(1,$,2);", "g(x$=1);", "g(x$:=1);", "g($int);", "g($*p);",
		"x=g($", "x=g($,", "x=g(1$;", "x=g(1,$);", "(x$", "(x$;", "($", "($)", "($;", "(x+$).y=1;", "(x$,y).z=1;", "if(x$", "if($){}", "if x+${}",
	} {
		wantMisfitIn(t, marked)
	}
}

// fits is a source that has each rule of the grammar, and each of its ways.
const fits = `type T struct { n int; b bool; p *T; } type U struct { } var g *T; var n int;
func none() { } func one(a int) int { return a; } func two(a bool, b *U) *T { return; }
func main() {
	x := -1 + 2 * (3 - n); x = !true; x.p.n = read(); one(1); none(); two(false, nil).p = new(T);
	if x == nil || x.b && true { } else if x.n << 1 >= 2 { x = 1; } else { for (x) { none(); } }
	(x).p = two(x != nil, x); print(-x.n); if a { } return x % 2 ^ - -n;
}
`

// P4.1: a source that ends too early, at each place.
func TestEndsEarly(t *testing.T) {
	list, _, _ := lex.Scan(fits)
	whole := 0
	for i := range len(list) + 1 {
		s := lex.Join(list[:i])
		isWhole := i == len(list) || slices.Contains([]string{"type", "var", "func"}, list[i].Text)
		for _, behind := range []string{"", " ", "\n\t\r ", " // rest", "//"} {
			if isWhole {
				mustParse(t, s+behind)
				continue
			}
			wantWrong(t, s+behind, len(s+behind), api.ErrForm)
		}
		if isWhole {
			whole++
		}
	}
	if whole != 9 {
		t.Error(whole)
	}
}

// P4.1: each byte at which the text itself may be cut.
func TestCutText(t *testing.T) {
	for i := range len(fits) + 1 {
		wantLikePlain(t, fits[:i])
	}
}

// P4.1: layer 2's place and error come first, whatever stands ahead.
func TestScanFaults(t *testing.T) {
	long := strings.Repeat("x", 13)
	deep := strings.Repeat("func f(){x=((((((((((((((((((((((((((((((((((((((((((((((((", 2)
	for _, c := range []struct {
		s   string
		at  int
		err api.Errno
	}{
		{"#", 0, api.ErrForm}, {"var x $;", 6, api.ErrForm}, {"var x int; \x00", 11, api.ErrForm}, {"\xff", 0, api.ErrForm},
		{"} } #", 4, api.ErrForm}, {"var var 01", 8, api.ErrForm}, {"func f(){x=1a;}", 11, api.ErrForm}, {"func f(){x=:1;}", 11, api.ErrForm},
		{"func f(){x=9223372036854775808;}", 11, api.ErrRange}, {") 9223372036854775808", 2, api.ErrRange},
		{"var " + long + " int;", 4, api.ErrFull}, {"1 " + long, 2, api.ErrFull}, {deep + "#", len(deep), api.ErrForm},
		{strings.Repeat(" ", 4097), 4096, api.ErrFull}, {strings.Repeat("#", 4097), 4096, api.ErrFull}, {strings.Repeat("(", 5000), 4096, api.ErrFull},
	} {
		wantWrong(t, c.s, c.at, c.err)
	}
	if n := mustParse(t, strings.Repeat(" ", 4096)); n.Op() != parse.Program || n.Size() != 1 {
		t.Error(tell(n))
	}
}

func wantLikePlain(t *testing.T, s string) {
	t.Helper()
	at, want := plain(s)
	if want != api.OK {
		wantWrong(t, s, at, want)
		return
	}
	mustParse(t, s)
}

func allTexts() []string {
	return strings.Fields("type struct func var if else for return print new nil true false int bool read " +
		"+ - * / % & | ^ << >> == != < <= > >= && || ! = := . , ; ( ) { } w 7")
}

// P4.1: each token in the place of each one, ahead of it, and each one gone,
// against a reader of the grammar that is made by other means.
func TestEachTokenAtEachPlace(t *testing.T) {
	list, _, _ := lex.Scan(fits)
	var texts []string
	for _, token := range list {
		texts = append(texts, token.Text)
	}
	// Func by Func: what stands ahead of one plays no part within it.
	for _, piece := range strings.SplitAfter(strings.Join(texts, " "), "} ") {
		words := strings.Fields(piece)
		for i := range words {
			gone := slices.Delete(slices.Clone(words), i, i+1)
			wantLikePlain(t, strings.Join(gone, " "))
			for _, text := range allTexts() {
				instead := slices.Clone(words)
				instead[i] = text
				wantLikePlain(t, strings.Join(instead, " "))
				wantLikePlain(t, strings.Join(slices.Insert(slices.Clone(words), i, text), " "))
			}
		}
	}
}

// opening is something deeper: its token with what stands ahead, and what
// stands behind all that is within.
type opening struct {
	ahead, token, behind string
	isBlock              bool
}

func openings() map[string]opening {
	return map[string]opening{
		"if":    {"if true", "{", "}", true},
		"else":  {"if true{}else", "{", "}", true},
		"chain": {"if true{}else if true", "{", "}", true},
		"for":   {"for true", "{", "}", true},
		"cond":  {"if ", "(", "){}", false},
		"loop":  {"for ", "(", "){}", false},
		"print": {"print", "(", ");", false},
		"do":    {"g", "(", ");", false},
		"set":   {"x=", "(", ");", false},
		"put":   {"x.y=1+", "(", ");", false},
		"ahead": {"", "(", ").y=1;", false},
		"back":  {"return ", "(", ");", false},
	}
}

func innerOpenings() map[string]opening {
	return map[string]opening{
		"brackets": {"", "(", ")", false},
		"field":    {"", "(", ").a", false},
		"sum":      {"1+", "(", ")", false},
		"both":     {"1&&", "(", ")&&1", false},
		"call":     {"g", "(", ")", false},
		"first":    {"h.g+g", "(", ",1)", false},
		"minus":    {"", "-", "", false},
		"not":      {"", "!", "", false},
	}
}

// nested builds a function from the outside in: blocks, one statement, what is
// in it, and a middle; and answers the places of the tokens that open.
func nested(blocks []opening, statement opening, inner []opening, middle string) (string, []int) {
	s, behind := "func f()", "}"
	at := []int{len(s)}
	s += "{"
	all := append(append(slices.Clone(blocks), statement), inner...)
	for _, o := range all {
		// Ahead of an else there stands a block that is as deep.
		opened := o.ahead + o.token
		at = append(at, len(s)+strings.Index(opened, o.token))
		s += opened
		behind = o.behind + behind
	}
	return s + middle + behind, at
}

func wantDepth(t *testing.T, s string, at []int) {
	t.Helper()
	if len(at) <= 40 {
		mustParse(t, s)
		return
	}
	wantWrong(t, s, at[40], api.ErrDeep)
}

func times(o opening, count int) []opening { return slices.Repeat([]opening{o}, count) }

// P4.1: blocks, each kind of them.
func TestDepthOfBlocks(t *testing.T) {
	for name, o := range openings() {
		if !o.isBlock {
			continue
		}
		for _, count := range []int{1, 37, 38, 39, 40, 41, 60} {
			s, at := nested(times(o, count-1), o, nil, "")
			if len(at) != count+1 {
				t.Fatal(name, len(at))
			}
			wantDepth(t, s, at)
			wantDepth(t, strings.ReplaceAll(s, "true", "x.y+1"), shifted(s, at, "true", "x.y+1"))
		}
	}
}

// shifted moves places as replacing a text by another one does.
func shifted(s string, at []int, from, to string) []int {
	var list []int
	for _, place := range at {
		list = append(list, place+strings.Count(s[:place], from)*(len(to)-len(from)))
	}
	return list
}

// P4.1: brackets of expressions, of calls, of print, and unaries, each kind
// within each statement, and with blocks around.
func TestDepthOfExpressions(t *testing.T) {
	for _, statement := range openings() {
		if statement.isBlock {
			continue
		}
		for _, inner := range innerOpenings() {
			for _, blocks := range []int{0, 1, 20, 37, 38, 39, 40} {
				for _, whole := range []int{39, 40, 41, 42, 60} {
					count := whole - blocks - 2
					if count < 0 {
						continue
					}
					s, at := nested(times(openings()["for"], blocks), statement, times(inner, count), "1")
					if len(at) != whole {
						t.Fatal(len(at), whole)
					}
					wantDepth(t, s, at)
				}
			}
		}
	}
}

// P4.1: a call's brackets count without arguments too.
func TestDepthOfEmptyCalls(t *testing.T) {
	s, at := nested(times(openings()["if"], 38), opening{"g", "(", ");", false}, nil, "")
	wantDepth(t, s, at)
	s, at = nested(times(openings()["if"], 39), opening{"g", "(", ");", false}, nil, "")
	wantDepth(t, s, at)
	s, at = nested(times(openings()["if"], 39), opening{"x=g", "(", ");", false}, nil, "")
	wantDepth(t, s, at)
}

// P4.1: several kinds within one another, in turn.
func TestDepthOfSeveral(t *testing.T) {
	kinds := innerOpenings()
	// Behind a unary stands what is its operand from the beginning.
	names := []string{"brackets", "minus", "call", "sum", "not", "field", "first", "both", "not", "minus"}
	for turn := range names {
		for _, count := range []int{38, 39, 40} {
			var inner []opening
			for i := range count - 10 {
				inner = append(inner, kinds[names[(turn+i)%len(names)]])
			}
			s, at := nested(times(openings()["else"], 9), openings()["print"], inner, "x")
			if len(at) != count+1 {
				t.Fatal(len(at))
			}
			wantDepth(t, s, at)
		}
	}
}

// P4.1: what isn't counted, at the last depth; and what ends is no deeper.
func TestDepthOfOthers(t *testing.T) {
	blocks := times(openings()["if"], 38)
	for _, middle := range []string{
		"new(T)", "read()", "new(T).x", "read()+read()", "x.y.z.w", "1+2*3==4&&5||6",
	} {
		s, at := nested(blocks, openings()["set"], nil, middle)
		if len(at) != 40 {
			t.Fatal(len(at))
		}
		mustParse(t, s)
	}
	for _, marked := range []string{
		"$-1", "$!x", "$(1)", "g$()", "g$(1)", "1+$-1", "1+$(1)", "1+g$()", "x==$-1", "x-$-1", "x&&$!y", "$-new(T)", "$(read())", "new(T).x+$(1)",
	} {
		s, _ := nested(blocks, openings()["set"], nil, marked)
		at := strings.Index(s, "$")
		wantWrong(t, s[:at]+s[at+1:], at, api.ErrDeep)
	}
	for _, s := range []string{
		inBody("x=1" + strings.Repeat("+-1", 100) + ";"),
		inBody("x=1" + strings.Repeat("+(-1)*g(!1)", 100) + ";"),
		inBody("x=-g(1)" + strings.Repeat(".a", 100) + ";"),
		inBody(strings.Repeat("print(-1);", 100)),
		inBody(strings.Repeat("if (x) { } for !x { } g(1);", 50)),
		inBody("if x{}" + strings.Repeat("else if(x){}", 100) + "else{}"),
		inBody("x=g(" + strings.Repeat("-1,(1),", 100) + "1);"),
		strings.Repeat("func f(a int,b int)int{x=(-1);}type T struct{a int;}", 50),
	} {
		mustParse(t, s)
	}
}

// P4.1: of several that are wrong the first one from the left counts.
func TestFirstOfSeveral(t *testing.T) {
	deep := strings.Repeat("(", 40)
	wantWrong(t, "func f(){x="+deep+")", 11+39, api.ErrDeep)
	wantWrong(t, "func f(){x=)"+deep, 11, api.ErrForm)
	wantWrong(t, "func f(){x="+deep[1:]+")"+deep, 11+39, api.ErrForm)
	wantWrong(t, "func f(){x="+deep, 11+39, api.ErrDeep)
	wantWrong(t, "func f(){x="+deep[1:], 11+39, api.ErrForm)
	wantWrong(t, "func f(){x="+deep[1:]+"if", 11+39, api.ErrForm)
	wantWrong(t, "func f(){x="+deep[1:]+"- -1", 11+39, api.ErrDeep)
	wantWrong(t, "func f(){x="+deep[1:]+"-;", 11+39, api.ErrDeep)
	wantWrong(t, "func f(){"+strings.Repeat("if x{", 40)+";", 9+39*5+4, api.ErrDeep)
	wantWrong(t, "func f(){"+strings.Repeat("if x{", 39)+";", 9+39*5, api.ErrForm)
	wantWrong(t, "func f(){x=1 var y(;", 13, api.ErrForm)
}
