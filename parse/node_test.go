package parse_test

import (
	"strings"
	"testing"

	"truant/api"
	"truant/lex"
	"truant/parse"
)

// eachNode goes through a whole tree.
func eachNode(n parse.Node, do func(parse.Node)) {
	do(n)
	for i := range n.Kids() {
		eachNode(n.Kid(i), do)
	}
}

func wantNone(t *testing.T, n parse.Node) {
	t.Helper()
	if n.Op() != 0 || n.Name() != "" || n.Type() != "" || n.N() != 0 || n.At() != 0 || n.Kids() != 0 || n.Size() != 0 {
		t.Errorf("the zero Node has something: %s, size %d", tell(n), n.Size())
	}
	if n != (parse.Node{}) {
		t.Error("not the zero Node")
	}
}

func noPlaces(kids int) []int {
	return []int{least, least + 1, -1 << 32, -2, -1, kids, kids + 1, kids + 1<<32, greatest - 1, greatest}
}

// P4.2
func TestZeroNode(t *testing.T) {
	var n parse.Node
	wantNone(t, n)
	for _, i := range append(noPlaces(0), 0, 1) {
		wantNone(t, n.Kid(i))
		wantNone(t, n.Kid(i).Kid(i))
	}
	parse.Show(n)
}

// P4.2: Kid at no place, of each node of a source that has all of them.
func TestKidBeyond(t *testing.T) {
	seen := map[int]bool{}
	eachNode(mustParse(t, fits), func(n parse.Node) {
		seen[n.Op()] = true
		for _, i := range noPlaces(n.Kids()) {
			wantNone(t, n.Kid(i))
		}
		for i := range n.Kids() {
			if n.Kid(i).Op() == 0 {
				t.Errorf("%s has no kid %d", tell(n), i)
			}
		}
	})
	for op := parse.Program; op <= parse.Either; op++ {
		if !seen[op] {
			t.Errorf("no %s in the source", opNames()[op])
		}
	}
}

// P4.2
func TestSize(t *testing.T) {
	for _, c := range []struct {
		s    string
		size int
	}{
		{"", 1}, {"var g int;", 2}, {"type T struct{}", 2}, {"type T struct{a int;b int;}", 4}, {"func f(){}", 3}, {"func f(a int)int{}", 4},
		{inBody("x=1;"), 5}, {inBody("x.y=1;"), 6}, {inBody("x.z.y=1;"), 7}, {inBody("f();"), 5}, {inBody("return;"), 4}, {inBody("return ((1));"), 5},
		{inBody("if x{}"), 6}, {inBody("if x{}else{}"), 7}, {inBody("if x{}else if y{}else{}"), 10}, {inBody("print(-1+f(2,new(T)));"), 10},
	} {
		if got := mustParse(t, c.s).Size(); got != c.size {
			t.Errorf("%q has size %d, want %d", c.s, got, c.size)
		}
	}
	eachNode(mustParse(t, fits), func(n parse.Node) {
		size := 0
		eachNode(n, func(parse.Node) { size++ })
		if n.Size() != size {
			t.Errorf("%s has size %d, want %d", tell(n), n.Size(), size)
		}
	})
}

// P4.2: each place is that of a token whose text the node's row names.
func TestPlaces(t *testing.T) {
	list, _, _ := lex.Scan(fits)
	texts := map[int]string{}
	for _, token := range list {
		texts[token.At] = token.Text
	}
	keys := map[int]string{
		parse.Block: "{", parse.If: "if", parse.For: "for", parse.Print: "print", parse.Return: "return",
		parse.None: "nil", parse.Input: "read", parse.Both: "&&", parse.Either: "||",
	}
	signs := strings.Fields("+ - * / % & | ^ << >> == != < <= > >= - !")
	eachNode(mustParse(t, fits), func(n parse.Node) {
		want := n.Name()
		switch n.Op() {
		case parse.Program:
			return
		case parse.Do:
			want = n.Kid(0).Name()
		case parse.Number:
			want = string(rune('0' + n.N()))
		case parse.Truth:
			want = []string{"false", "true"}[n.N()]
		case parse.Unary, parse.Binary:
			want = signs[n.N()-1]
		default:
			if key := keys[n.Op()]; key != "" {
				want = key
			}
		}
		if texts[n.At()] != want {
			t.Errorf("%s is at %q, want %q", tell(n), texts[n.At()], want)
		}
	})
}

// P4.3
func TestShow(t *testing.T) {
	for _, c := range []struct{ s, want string }{
		{"", ""},
		{" // nothing", ""},
		{"type T struct{}", "type T struct { }"},
		{"type T struct{a int;b bool;c*U;}", "type T struct { a int ; b bool ; c * U ; }"},
		{"var g bool;var h*T;", "var g bool ; var h * T ;"},
		{"func f(){}", "func f ( ) { }"},
		{"func f(a int)bool{}", "func f ( a int ) bool { }"},
		{"func f(a int,b*T,c bool)*T{}", "func f ( a int , b * T , c bool ) * T { }"},
		{"func f(){}var g int;type T struct{}", "func f ( ) { } var g int ; type T struct { }"},
		{"func main(){print(1+2*3);}", "func main ( ) { print ( ( 1 + ( 2 * 3 ) ) ) ; }"},
	} {
		if got := parse.Show(mustParse(t, c.s)); got != c.want {
			t.Errorf("%q is shown as %q", c.s, got)
		}
	}
	for _, c := range []struct{ s, want string }{
		{"x:=1;", "x := 1 ;"},
		{"x=(1);", "x = 1 ;"},
		{"x=((y.z)).w;", "x = y . z . w ;"},
		{"x.y.z=nil;", "x . y . z = nil ;"},
		{"(x).y=(true);", "x . y = true ;"},
		{"(x+1).y=false;", "( x + 1 ) . y = false ;"},
		{"(!x).y=-1;", "( ! x ) . y = ( - 1 ) ;"},
		{"1.y=2;", "1 . y = 2 ;"},
		{"g();", "g ( ) ;"},
		{"g((1));", "g ( 1 ) ;"},
		{"g(1,-x,(y+z),h());", "g ( 1 , ( - x ) , ( y + z ) , h ( ) ) ;"},
		{"(g()).y=1;", "g ( ) . y = 1 ;"},
		{"if(x){}", "if x { }"},
		{"if x&&y{}else{}", "if ( x && y ) { } else { }"},
		{"if x{g();}else if!y{h();}else{}", "if x { g ( ) ; } else if ( ! y ) { h ( ) ; } else { }"},
		{"for x||y{for true{}}", "for ( x || y ) { for true { } }"},
		{"print((1));", "print ( 1 ) ;"},
		{"print(-1);", "print ( ( - 1 ) ) ;"},
		{"return;", "return ;"},
		{"return(x);", "return x ;"},
		{"return x==y;", "return ( x == y ) ;"},
		{"x=new(T);", "x = new ( T ) ;"},
		{"x=new(T).y;", "x = new ( T ) . y ;"},
		{"x=read()+(read());", "x = ( read ( ) + read ( ) ) ;"},
		{"x=- -!y;", "x = ( - ( - ( ! y ) ) ) ;"},
		{"x=-y.z;", "x = ( - y . z ) ;"},
		{"x=(-y).z;", "x = ( - y ) . z ;"},
		{"x=a-b-c;", "x = ( ( a - b ) - c ) ;"},
		{"x=a-(b-c);", "x = ( a - ( b - c ) ) ;"},
		{"x=a||b&&c;", "x = ( a || ( b && c ) ) ;"},
		{"x=(a||b)&&c;", "x = ( ( a || b ) && c ) ;"},
		{"x=9223372036854775807;", "x = 9223372036854775807 ;"},
	} {
		if got := parse.Show(mustParse(t, inBody(c.s))); got != "func f ( ) { "+c.want+" }" {
			t.Errorf("%q is shown as %q", c.s, got)
		}
	}
}

// P4.3: Show of any node ends.
func TestShowOfOthers(t *testing.T) {
	eachNode(mustParse(t, fits), func(n parse.Node) { parse.Show(n) })
}

// P4.3, P4.4: each sign is shown, and is parsed as the same.
func TestShowSigns(t *testing.T) {
	for sign := range levels() {
		s := inBody("x=a " + sign + " b " + sign + " c;")
		n := mustParse(t, s)
		shown := parse.Show(n)
		if want := "func f ( ) { x = ( ( a " + sign + " b ) " + sign + " c ) ; }"; shown != want {
			t.Errorf("%q is shown as %q", s, shown)
		}
		wantSame(t, n, mustParse(t, shown))
	}
}

// P4.4
func TestShownAgain(t *testing.T) {
	n := mustParse(t, fits)
	again := mustParse(t, parse.Show(n))
	wantSame(t, n, again)
	if parse.Show(again) != parse.Show(n) {
		t.Error(parse.Show(again))
	}
}

// P4.4: what is shown may be too deep, by the brackets of unaries; it is the
// same up to there.
func TestShownTooDeep(t *testing.T) {
	for count := range 40 {
		n := mustParse(t, inBody("x="+strings.Repeat("- ", count)+"1;"))
		shown := parse.Show(n)
		if 1+2*count <= api.MaxDepth {
			wantSame(t, n, mustParse(t, shown))
			continue
		}
		if _, _, err := parse.Parse(shown); err != api.ErrDeep {
			t.Errorf("%q: error %d", shown, err)
		}
	}
}

// P4.4: what is shown may be too long, by its blanks.
func TestShownTooLong(t *testing.T) {
	head, tail := "func f ( ) { ", "}"
	for _, count := range []int{1, 500, 1000} {
		n := mustParse(t, inBody(strings.Repeat("g();", count)))
		shown := parse.Show(n)
		if len(shown) != len(head)+count*len("g ( ) ; ")+len(tail) {
			t.Fatal(len(shown))
		}
		if len(shown) <= api.MaxText {
			wantSame(t, n, mustParse(t, shown))
			continue
		}
		wantWrong(t, shown, api.MaxText, api.ErrFull)
	}
}

// P1: long sources of each shape end, and so does what is asked of them.
func TestLong(t *testing.T) {
	for _, s := range []string{
		inBody("x=1" + strings.Repeat("+1", 2000) + ";"),
		inBody("x=y" + strings.Repeat(".y", 2000) + ";"),
		inBody("y" + strings.Repeat(".y", 2000) + "=1;"),
		inBody("if x{}" + strings.Repeat("else if x{}", 350)),
		inBody(strings.Repeat("g();", 1000)),
		inBody("g(1" + strings.Repeat(",1", 2000) + ");"),
		strings.Repeat("func f(){}", 400),
		strings.Repeat("var x int;", 400),
		"type T struct{" + strings.Repeat("x int;", 600) + "}",
		"func f(x int" + strings.Repeat(",x int", 500) + "){}",
	} {
		n := mustParse(t, s)
		size := 0
		eachNode(n, func(parse.Node) { size++ })
		if n.Size() != size || len(parse.Show(n)) <= len(s) {
			t.Error(s[:40], n.Size(), size)
		}
	}
	for _, c := range []byte("({-!.,;x1") {
		for _, ahead := range []string{"", "func f(", "func f(){", "func f(){x=", "func f(){g(", "func f(){if "} {
			s := ahead + strings.Repeat(string(c)+" ", 2000)
			if _, _, err := parse.Parse(s); err != api.ErrForm && err != api.ErrDeep {
				t.Errorf("%q..: error %d", s[:20], err)
			}
		}
	}
}

// Rule 4: nothing is kept from call to call.
func TestFresh(t *testing.T) {
	first := tell(mustParse(t, fits))
	parse.Parse("func f(){x=((((")
	parse.Parse(inBody("x=" + strings.Repeat("(", 50)))
	if tell(mustParse(t, fits)) != first {
		t.Error("another tree")
	}
}
