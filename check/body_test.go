package check_test

import (
	"slices"
	"strings"
	"testing"

	"truant/api"
)

// P5.1: expressions that can't be wrong.
func TestSingles(t *testing.T) {
	wantType(t, "0", "int")
	wantType(t, "9223372036854775807", "int")
	wantType(t, "read()", "int")
	wantType(t, "true", "bool")
	wantType(t, "false", "bool")
	wantType(t, "nil", "nil")
	wantType(t, "((nil))", "nil")
}

// P5.1: Var.
func TestVar(t *testing.T) {
	wantType(t, "i", "int")
	wantType(t, "b", "bool")
	wantType(t, "p", "*T")
	wantType(t, "q", "*U")
	wantMain(t, "x := $y;", api.ErrName)
	wantMain(t, "print($m);", api.ErrName)
	wantMain(t, "x := $T;", api.ErrType)
	wantMain(t, "x := $none;", api.ErrType)
	wantMain(t, "x := $int1;", api.ErrType)
	wantMain(t, "x := $main;", api.ErrType)
	wantRight(t, "func main() { x := g; print(x); } var g int;")
}

// P5.1: Make.
func TestMake(t *testing.T) {
	wantType(t, "new(T)", "*T")
	wantType(t, "new(E)", "*E")
	wantMain(t, "p = new($W);", api.ErrName)
	wantMain(t, "p = new($n);", api.ErrName)
	wantMain(t, "p = new($i);", api.ErrType)
	wantMain(t, "p = new($p);", api.ErrType)
	wantMain(t, "p = new($t1);", api.ErrType)
	wantMain(t, "p = new($main);", api.ErrType)
	// No variable hides a struct here, nor is one met.
	wantMainRight(t, "T := 1; p = new(T); print(T);")
	wantMainRight(t, "T := new(T); T = new(T); T.t = p;")
	wantMain(t, "T := new(T); $T = new(U);", api.ErrType)
	wantMain(t, "x := new(T); y := new($x);", api.ErrName)
	wantMain(t, "i := new(T); y := new($i);", api.ErrType)
	wantRight(t, head+"func f(T int) *T { return new(T); } func main() { }")
	wantAt(t, head+"func f(W *T) *T { return new($W); } func main() { }", api.ErrName)
}

// P5.1: Field.
func TestField(t *testing.T) {
	wantType(t, "p.n", "int")
	wantType(t, "p.c", "bool")
	wantType(t, "p.t", "*T")
	wantType(t, "p.u", "*U")
	wantType(t, "p.u.t.t.u.m", "int")
	wantType(t, "new(T).t", "*T")
	wantType(t, "t1().u.t", "*T")
	wantType(t, "(p).u", "*U")
	wantMain(t, "x := i.$n;", api.ErrType)
	wantMain(t, "x := b.$n;", api.ErrType)
	wantMain(t, "x := 1.$n;", api.ErrType)
	wantMain(t, "x := nil.$n;", api.ErrType)
	wantMain(t, "x := none().$n;", api.ErrType)
	wantMain(t, "x := int1().$n;", api.ErrType)
	wantMain(t, "x := (p == q.t).$n;", api.ErrType)
	wantMain(t, "x := p.n.$n;", api.ErrType)
	wantMain(t, "x := p.$m;", api.ErrName)
	wantMain(t, "x := p.$p;", api.ErrName)
	wantMain(t, "x := p.$T;", api.ErrName)
	wantMain(t, "n := 1; x := q.$n;", api.ErrName)
	wantMain(t, "x := new(E).$n;", api.ErrName)
	wantMain(t, "x := p.u.$n.n;", api.ErrName)
	wantMain(t, "x := $y.n;", api.ErrName)
	wantMain(t, "x := $T.n;", api.ErrType)
}

// P5.1: Call, as an expression and as a statement.
func TestCall(t *testing.T) {
	wantType(t, "int1()", "int")
	wantType(t, "bool1()", "bool")
	wantType(t, "t1()", "*T")
	wantType(t, "u1()", "*U")
	wantType(t, "two(1, nil)", "bool")
	wantType(t, "none()", "")
	wantType(t, "main()", "")
	for _, around := range []string{"%s;", "x := %s;", "print(1 + int1()); %s;", "takeBool(%s);"} {
		around := func(s string) string { return strings.Replace(around, "%s", s, 1) }
		wantMain(t, around("$nobody()"), api.ErrName)
		wantMain(t, around("$n(1)"), api.ErrName)
		wantMain(t, around("$i()"), api.ErrType)
		wantMain(t, around("$T()"), api.ErrType)
		wantMain(t, "v := 1; "+around("$v()"), api.ErrType)
		wantMain(t, "two := 1; "+around("$two(1, p)"), api.ErrType)
		for _, args := range []string{"", "1", "p", "1, p, p", "1, p, 1", "nil, p", "true, p", "1, q", "1, 1", "p, 1", "none(), p", "1, none()", "1, new(U)"} {
			wantMain(t, around("$two("+args+")"), api.ErrType)
		}
		wantMain(t, around("$none(1)"), api.ErrType)
		wantMain(t, around("$none(nil)"), api.ErrType)
		wantMain(t, around("$none(none())"), api.ErrType)
		wantMainRight(t, around("two(1, p)"))
		wantMainRight(t, around("two(int1(), p.u.t)"))
		wantMainRight(t, around("two(-1, nil)"))
	}
	wantMainRight(t, "none(); int1(); bool1(); t1(); u1(); takeT(nil); main();")
	wantRight(t, "func main() { f(g(1)); } func f(x bool) { } func g(x int) bool { return g(x); }")
	// Arguments stand ahead of their call, in order.
	wantMain(t, "nobody($nobody);", api.ErrName)
	wantMain(t, "i($T);", api.ErrType)
	wantMain(t, "two($T, nobody, 1);", api.ErrType)
	wantMain(t, "two(nobody(p.$q), i.n);", api.ErrName)
	wantMain(t, "two(1, p, $nobody);", api.ErrName)
	wantMain(t, "two(true, $nobody);", api.ErrName)
	wantMain(t, "takeInt($nobody(1));", api.ErrName)
}

// P5.1: Unary.
func TestUnary(t *testing.T) {
	wantType(t, "-i", "int")
	wantType(t, "--1", "int")
	wantType(t, "!b", "bool")
	wantType(t, "!!true", "bool")
	for _, typ := range []string{"b", "p", "nil", "none()", "new(T)", "true", "!b"} {
		wantMain(t, "x := $-"+typ+";", api.ErrType)
	}
	for _, typ := range []string{"i", "p", "nil", "none()", "new(T)", "1", "-i"} {
		wantMain(t, "x := $!"+typ+";", api.ErrType)
	}
	wantMain(t, "x := !$-b;", api.ErrType)
	wantMain(t, "x := $-!b;", api.ErrType)
	wantMain(t, "x := -$T;", api.ErrType)
	wantMain(t, "x := !$y;", api.ErrName)
}

// values are expressions of all types, by their type.
func values() map[string]string {
	return map[string]string{"int": "i", "bool": "b", "*T": "p", "*U": "q", "*E": "new(E)", "nil": "nil", "": "none()"}
}

func mayStandBeside(sign, one, two string) bool {
	isPointer := func(typ string) bool { return strings.HasPrefix(typ, "*") }
	if one == "int" && two == "int" {
		return true
	}
	if sign != "==" && sign != "!=" {
		return false
	}
	switch {
	case one == "bool":
		return two == "bool"
	case isPointer(one):
		return two == one || two == "nil"
	case one == "nil":
		return isPointer(two)
	}
	return false
}

// P5.1: Binary, of all signs and all pairs of types.
func TestBinary(t *testing.T) {
	for _, sign := range strings.Fields("+ - * / % & | ^ << >> == != < <= > >=") {
		result := "int"
		if slices.Contains(strings.Fields("== != < <= > >="), sign) {
			result = "bool"
		}
		wantType(t, "i "+sign+" 1", result)
		for one, left := range values() {
			for two, right := range values() {
				if mayStandBeside(sign, one, two) {
					wantMainRight(t, "x := "+left+" "+sign+" "+right+"; "+takers()[result]+"(x);")
				} else {
					wantMain(t, "x := "+left+" $"+sign+" "+right+";", api.ErrType)
				}
			}
		}
	}
	wantMain(t, "x := $y + T;", api.ErrName)
	wantMain(t, "x := true + $y;", api.ErrName)
	wantMain(t, "x := $T + y;", api.ErrType)
	wantMain(t, "x := (1 $+ b) + (1 - b);", api.ErrType)
	wantMain(t, "x := 1 $+ b - (1 - b);", api.ErrType)
	wantMain(t, "x := 1 < 2 $< 3;", api.ErrType)
	wantMainRight(t, "x := 1 < 2 == true != (p == nil); takeBool(x);")
	wantMainRight(t, "x := p.t == nil == (nil != q); takeBool(x);")
}

// P5.1: Both and Either.
func TestBothAndEither(t *testing.T) {
	for _, sign := range []string{"&&", "||"} {
		wantType(t, "b "+sign+" true", "bool")
		for one, left := range values() {
			for two, right := range values() {
				if one == "bool" && two == "bool" {
					wantMainRight(t, "x := "+left+" "+sign+" "+right+";")
				} else {
					wantMain(t, "x := "+left+" $"+sign+" "+right+";", api.ErrType)
				}
			}
		}
		wantMain(t, "x := $y "+sign+" T;", api.ErrName)
		wantMain(t, "x := 1 "+sign+" $y;", api.ErrName)
	}
	wantMain(t, "x := b || b && b || 1 $&& b;", api.ErrType)
	wantMain(t, "x := b || b && b $|| 1;", api.ErrType)
}

// P5.1: Define.
func TestDefine(t *testing.T) {
	for typ, value := range values() {
		if typ == "nil" || typ == "" {
			wantMain(t, "$x := "+value+";", api.ErrType)
		} else {
			wantMainRight(t, "x := "+value+"; x = "+value+"; "+takers()[typ]+"(x);")
		}
	}
	wantMain(t, "x := 1; $x := 2;", api.ErrTwice)
	wantMain(t, "x := 1; $x := true;", api.ErrTwice)
	wantMain(t, "x := 1; y := 1; z := 1; $y := 1; x := 1;", api.ErrTwice)
	wantMain(t, "x := 1; if b { } for b { } $x := 2;", api.ErrTwice)
	wantMain(t, "if b { y := 1; if b { } $y := 1; }", api.ErrTwice)
	// ErrTwice is asked behind the expression, and ahead of its type.
	wantMain(t, "x := 1; x := $y;", api.ErrName)
	wantMain(t, "x := 1; x := $T;", api.ErrType)
	wantMain(t, "x := 1; x := 1 $+ b;", api.ErrType)
	wantMain(t, "x := 1; $x := nil;", api.ErrTwice)
	wantMain(t, "x := 1; $x := none();", api.ErrTwice)
	wantMain(t, "x := 1; $x := x;", api.ErrTwice)
}

// P5.1: where a variable's name is known, and what it hides.
func TestScopes(t *testing.T) {
	wantMain(t, "x := $x;", api.ErrName)
	wantMain(t, "x := 1 + $x;", api.ErrName)
	wantMain(t, "$x = 1; x := 1;", api.ErrName)
	wantMain(t, "if b { x := 1; } print($x);", api.ErrName)
	wantMain(t, "if b { x := 1; } else { print($x); }", api.ErrName)
	wantMain(t, "if b { x := 1; } else if b { print($x); }", api.ErrName)
	wantMain(t, "if b { } else { x := 1; } print($x);", api.ErrName)
	wantMain(t, "if b { } else if b { x := 1; } else { print($x); }", api.ErrName)
	wantMain(t, "for b { x := 1; } print($x);", api.ErrName)
	wantMain(t, "for $x == 1 { x := 1; }", api.ErrName)
	wantMain(t, "if b { if b { x := 1; } print($x); }", api.ErrName)
	wantMainRight(t, "x := 1; if x == 1 { print(x); if b { print(x); } else { x = 2; } } else if x == 2 { x = 3; } for x == 1 { x = 2; }")
	wantMainRight(t, "if b { x := 1; } if b { x := true; } for b { x := p; } x := q; x.m = 1;")
	// One within hides that around, from behind its expression on, to its end.
	wantMainRight(t, "x := 1; if b { x := x == 1; takeBool(x); if x { x := p; takeT(x); } takeBool(x); } takeInt(x);")
	wantMainRight(t, "x := 1; if b { takeInt(x); x = 2; x := true; takeBool(x); x = false; } x = 3;")
	wantMain(t, "x := 1; if b { x := true; $takeInt(x); }", api.ErrType)
	wantMain(t, "x := 1; if b { x := true; } $x = false;", api.ErrType)
	wantMain(t, "x := 1; for b { x := true; $x = 1; }", api.ErrType)
	wantMain(t, "x := 1; if b { x := true; } $x := 1;", api.ErrTwice)
	// Those of the program are hidden so, too.
	wantMainRight(t, "takeBool(b); if b { b := 1; takeInt(b); } takeBool(b); b = true; b := p; takeT(b);")
	wantMainRight(t, "i := i == 1; takeBool(i);")
	wantMain(t, "i := b; $print(i);", api.ErrType)
	wantMain(t, "if b { i := b; } $takeBool(i);", api.ErrType)
	wantMainRight(t, "none := int1(); print(none); if b { none = 1; }")
	wantMainRight(t, "if b { none := 1; print(none); } none();")
	wantMain(t, "none := 1; if b { $none(); }", api.ErrType)
	wantMain(t, "int1 := $int1;", api.ErrType)
	wantMainRight(t, "int1 := int1(); print(int1);")
	wantMainRight(t, "main := 1; T := main; print(T);")
	// A field's name is none of these.
	wantMainRight(t, "n := true; n = p.n == 1;")
	wantMain(t, "print($n);", api.ErrName)
	// Nothing is known in another Func.
	wantAt(t, "func f(x int) { y := x; } func main() { print($x); }", api.ErrName)
	wantAt(t, "func f(x int) { y := x; } func main() { print($y); }", api.ErrName)
	wantAt(t, "func main() { y := 1; } func f() { if true { print($y); } }", api.ErrName)
}

// P5.1: Parts are as if they were defined in the Func's block.
func TestPartsAsVariables(t *testing.T) {
	f := func(statements string) string {
		return head + "func main() { } func f(x int, y bool, i *T, none int) {" + statements + "}"
	}
	wantRight(t, f("takeInt(x); takeBool(y); takeT(i); takeInt(none); x = 1; y = true; i.n = 2; i = nil; none = 3;"))
	wantAt(t, f("$x := 1;"), api.ErrTwice)
	wantAt(t, f("z := 1; $i := new(T);"), api.ErrTwice)
	wantAt(t, f("$none := 1;"), api.ErrTwice)
	wantAt(t, f("$x := nil;"), api.ErrTwice)
	wantAt(t, f("x := $z;"), api.ErrName)
	wantRight(t, f("if y { x := true; takeBool(x); } takeInt(x);"))
	wantRight(t, f("for y { y := 1; takeInt(y); } takeBool(y);"))
	wantAt(t, f("$takeInt(i);"), api.ErrType)
	wantAt(t, f("$none();"), api.ErrType)
	wantRight(t, head+"func main() { } func f(f int, T bool) { print(f); takeBool(T); }")
	wantAt(t, head+"func main() { } func f(f int) { $f(1); }", api.ErrType)
	wantRight(t, head+"func main() { } func f(main bool) { if main { main := 1; print(main); } }")
}

// P5.1: Assign.
func TestAssign(t *testing.T) {
	targets := map[string]string{"int": "i", "bool": "b", "*T": "p", "*U": "q"}
	for typ, target := range targets {
		for other, value := range values() {
			for _, s := range []string{"$" + target + " = " + value + ";", "x := " + target + "; $x = " + value + ";"} {
				if other == typ || other == "nil" && strings.HasPrefix(typ, "*") {
					wantMainRight(t, strings.Replace(s, "$", "", 1))
				} else {
					wantMain(t, s, api.ErrType)
				}
			}
		}
	}
	wantMain(t, "$x = 1;", api.ErrName)
	wantMain(t, "$n = 1;", api.ErrName)
	wantMain(t, "$T = 1;", api.ErrType)
	wantMain(t, "$T = new(T);", api.ErrType)
	wantMain(t, "$T = nil;", api.ErrType)
	wantMain(t, "$none = 1;", api.ErrType)
	wantMain(t, "$int1 = 1;", api.ErrType)
	wantMain(t, "$x = nil;", api.ErrName)
	wantMain(t, "x = $y;", api.ErrName)
	wantMain(t, "x = $T;", api.ErrType)
	wantMain(t, "T = $y;", api.ErrName)
	wantMain(t, "i = 1 $+ b;", api.ErrType)
}

// P5.1: Put.
func TestPut(t *testing.T) {
	targets := map[string]string{"int": "p.$n", "bool": "q.t.$c", "*T": "new(T).$t", "*U": "t1().$u"}
	for typ, target := range targets {
		for other, value := range values() {
			s := target + " = " + value + ";"
			if other == typ || other == "nil" && strings.HasPrefix(typ, "*") {
				wantMainRight(t, strings.Replace(s, "$", "", 1))
			} else {
				wantMain(t, s, api.ErrType)
			}
		}
	}
	wantMain(t, "i.$n = 1;", api.ErrType)
	wantMain(t, "b.$n = 1;", api.ErrType)
	wantMain(t, "1.$n = 1;", api.ErrType)
	wantMain(t, "nil.$n = 1;", api.ErrType)
	wantMain(t, "none().$n = 1;", api.ErrType)
	wantMain(t, "p.n.$n = 1;", api.ErrType)
	wantMain(t, "p.$m = 1;", api.ErrName)
	wantMain(t, "p.$m = nil;", api.ErrName)
	wantMain(t, "p.u.$c = true;", api.ErrName)
	wantMain(t, "new(E).$n = 1;", api.ErrName)
	// Both kids stand ahead of it, in order.
	wantMain(t, "$y.n = z;", api.ErrName)
	wantMain(t, "$T.n = 1;", api.ErrType)
	wantMain(t, "$none.n = z;", api.ErrType)
	wantMain(t, "i.n = $y;", api.ErrName)
	wantMain(t, "i.n = $T;", api.ErrType)
	wantMain(t, "p.m = $T;", api.ErrType)
	wantMain(t, "p.$q.n = y;", api.ErrName)
	wantMain(t, "i.$q.n = y;", api.ErrType)
}

// P5.1: If and For.
func TestConditions(t *testing.T) {
	for typ, value := range values() {
		for _, key := range []string{"if", "for"} {
			if typ == "bool" {
				wantMainRight(t, key+" "+value+" { }")
			} else {
				wantMain(t, "$"+key+" "+value+" { x = y; }", api.ErrType)
				wantMain(t, "if b { } else { $"+key+" "+value+" { x = y; } }", api.ErrType)
			}
		}
		if typ != "bool" {
			wantMain(t, "if b { } else $if "+value+" { x = y; } else { x = y; }", api.ErrType)
			wantMain(t, "$if "+value+" { } else { x = y; }", api.ErrType)
		}
	}
	// The condition, then it, then its blocks.
	wantMain(t, "if $x { y = 1; } else { z = 1; }", api.ErrName)
	wantMain(t, "for $x { y = 1; }", api.ErrName)
	wantMain(t, "if b { $y = 1; } else { z = 1; }", api.ErrName)
	wantMain(t, "if b { } else { $z = 1; }", api.ErrName)
	wantMain(t, "if b { $y = 1; } else if z { }", api.ErrName)
	wantMain(t, "if b { } else if $z { y = 1; }", api.ErrName)
	wantMain(t, "if b { } else if b { $y = 1; } else { z = 1; }", api.ErrName)
	wantMain(t, "for b { $y = 1; } z = 1;", api.ErrName)
	wantMain(t, "for b { if b { for b { $print(b); } } }", api.ErrType)
	wantMainRight(t, "if b { } else if i == 1 { } else if !b { } else { } for p != nil { for true { } }")
}

// P5.1: Print.
func TestPrint(t *testing.T) {
	for typ, value := range values() {
		if typ == "int" {
			wantMainRight(t, "print("+value+");")
		} else {
			wantMain(t, "$print("+value+");", api.ErrType)
		}
	}
	wantMain(t, "print($x);", api.ErrName)
	wantMain(t, "print(1 $+ b);", api.ErrType)
}

// P5.1: Return.
func TestReturn(t *testing.T) {
	for _, typ := range []string{"int", "bool", "*T", "*U", ""} {
		f := func(statements string) string {
			return head + "func main() { } func f() " + typ + " {" + statements + "}"
		}
		for other, value := range values() {
			for _, around := range []string{"%", "if b { } else { for b { % } }"} {
				s := f(strings.Replace(around, "%", "$return "+value+";", 1))
				if typ != "" && other == typ || other == "nil" && strings.HasPrefix(typ, "*") {
					wantRight(t, strings.Replace(s, "$", "", 1))
				} else {
					wantAt(t, s, api.ErrType)
				}
			}
		}
		if typ == "" {
			wantRight(t, f("return; return; if b { return; }"))
			wantAt(t, f("return; $y = 1;"), api.ErrName)
		} else {
			wantAt(t, f("$return;"), api.ErrType)
			wantAt(t, f("if b { $return; } y = 1;"), api.ErrType)
		}
		wantAt(t, f("return $x;"), api.ErrName)
		wantAt(t, f("return 1 $+ b;"), api.ErrType)
		// A Func needs no Return.
		wantRight(t, f(""))
	}
}

// P5.1: nil where a pointer fits, and where none does.
func TestNil(t *testing.T) {
	wantMainRight(t, "p = nil; x := p; x = nil; p.t = nil; takeT(nil); two(1, nil); b = p == nil; b = nil != p.u;")
	wantMain(t, "$i = nil;", api.ErrType)
	wantMain(t, "p.$n = nil;", api.ErrType)
	wantMain(t, "$takeBool(nil);", api.ErrType)
	wantMain(t, "b = nil $== nil;", api.ErrType)
	wantMain(t, "b = nil $!= nil;", api.ErrType)
	wantMain(t, "b = i $== nil;", api.ErrType)
	wantMain(t, "b = nil $!= b;", api.ErrType)
	wantMain(t, "b = nil $< p;", api.ErrType)
	wantMain(t, "b = nil $== none();", api.ErrType)
}

// wrongs are expressions that break a rule themselves, each with its mark.
func wrongs() map[string]api.Errno {
	return map[string]api.Errno{
		"$nobody": api.ErrName, "$T": api.ErrType, "$none": api.ErrType, "$nobody()": api.ErrName, "$i()": api.ErrType, "$none(1)": api.ErrType,
		"i.$n": api.ErrType, "q.$n": api.ErrName, "new($W)": api.ErrName, "new($i)": api.ErrType, "($-b)": api.ErrType, "($!1)": api.ErrType,
		"(1 $+ b)": api.ErrType, "(p $== q)": api.ErrType, "(b $&& 1)": api.ErrType, "(1 $|| b)": api.ErrType,
	}
}

// P5.1: what is wrong within an expression counts ahead of all that is wrong
// around it and behind it, at each place where an expression stands.
func TestKidsAheadOfNodes(t *testing.T) {
	for _, place := range []string{
		"x := %;", "i = %;", "nobody = %;", "p.n = %;", "p.nobody = %;", "i.n = %;", "%.n = nobody;",
		"if % { nobody = 1; }", "for % { nobody = 1; }", "if b { } else if % { nobody = 1; } else { nobody = 2; }", "if b { print(%); }",
		"print(%);", "return %;", "nobody(%);", "none(%);", "two(b, %, nobody);", "x := nobody(nobody(%));", "x := nobody(%.nobody);",
		"x := %.nobody;", "x := -%;", "x := !%;", "x := % + nobody;", "x := b * %;", "x := % && nobody;", "x := 1 || %;", "x := % == nil;",
	} {
		for wrong, err := range wrongs() {
			wantMain(t, "i = 1; "+strings.Replace(place, "%", wrong, 1)+" nobody = 1;", err)
		}
	}
}
