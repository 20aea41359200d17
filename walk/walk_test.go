package walk_test

import (
	"math"
	"slices"
	"strconv"
	"strings"
	"testing"

	"truant/api"
	"truant/check"
	"truant/walk"
)

// head declares what the mains of the tests lean on.
const head = `
type T struct { n int; p *T; b bool; u *U; }
type U struct { t *T; m int; }
var g *T; var k int; var h bool;
func glob() int { return k; }
func set() int { k = 9; return 1; }
func swap() int { g = new(T); return 5; }
func say(n int) int { print(n); return n; }
func yes(n int) bool { print(n); return true; }
func no(n int) bool { print(n); return false; }
func self(p *T) *T { return p; }
func add(x int, y int) int { return x + y; }
func bump(n int) { n = n + 1; print(n); }
func none() int { }
func noneB() bool { }
func noneP() *T { }
func maybe(b bool) int { if b { return 4; } }
func fact(n int) int { if n <= 1 { return 1; } return n * fact(n - 1); }
func even(n int) bool { return n == 0 || odd(n - 1); }
func odd(n int) bool { return n != 0 && even(n - 1); }
func down(n int) int { x := n; if n > 0 { down(n - 1); } print(x); return x; }
func root(n int) int { i := 0; for true { if i * i >= n { return i; } i = i + 1; } return 0 - 1; }
func loop(n int) { for true { if n > 2 { return; } print(n); n = n + 1; } print(99); }
`

// row is a main, and what is to come of it.
type row struct {
	main string
	in   []int
	want walk.Result
}

func numbers(text string) []int {
	var list []int
	for _, word := range strings.Fields(text) {
		n, err := strconv.Atoi(word)
		if err != nil {
			panic(err)
		}
		list = append(list, n)
	}
	return list
}

func exits(out string, steps, made int) walk.Result {
	return walk.Result{Out: numbers(out), End: walk.Exit, Steps: steps, Made: made}
}

func faults(fault api.Errno, out string, steps, made int) walk.Result {
	return walk.Result{Out: numbers(out), End: walk.Fault, Fault: fault, Steps: steps, Made: made}
}

func spent(out string, steps, made int) walk.Result {
	return walk.Result{Out: numbers(out), End: walk.Spent, Steps: steps, Made: made}
}

func isSame(a, b walk.Result) bool {
	return slices.Equal(a.Out, b.Out) && a.End == b.End && a.Fault == b.Fault && a.Steps == b.Steps && a.Made == b.Made
}

func run(t *testing.T, s string, in []int, fuel int) walk.Result {
	t.Helper()
	r, err := walk.Run(s, in, fuel)
	if err != api.OK {
		t.Fatalf("Run(%q, %v, %d): error %d", s, in, fuel, err)
	}
	return r
}

func wantRun(t *testing.T, s string, in []int, fuel int, want walk.Result) {
	t.Helper()
	if r := run(t, s, in, fuel); !isSame(r, want) {
		t.Errorf("%q of %v with %d of fuel: %v, want %v", strings.TrimPrefix(s, head), in, fuel, r, want)
	}
}

// wantRow runs a main with just as much fuel as it takes, with more, and with
// each less.
func wantRow(t *testing.T, x row) {
	t.Helper()
	s := head + "func main() { " + x.main + " }"
	for _, fuel := range []int{x.want.Steps, x.want.Steps + 1, api.MaxFuel} {
		wantRun(t, s, x.in, fuel, x.want)
	}
	for fuel := range x.want.Steps {
		r := run(t, s, x.in, fuel)
		if r.End != walk.Spent || r.Fault != api.OK || r.Steps != fuel || !walk.IsPrefix(r.Out, x.want.Out) || r.Made > x.want.Made {
			t.Errorf("%q with %d of fuel: %v", x.main, fuel, r)
		}
		wantRun(t, s, x.in, fuel, plainRun(t, s, x.in, fuel))
	}
}

func wantRows(t *testing.T, list []row) {
	t.Helper()
	for _, x := range list {
		wantRow(t, x)
	}
}

// P7.1: Define and Assign, of variables and of globals; which variable a name
// stands for, and which global.
func TestVariables(t *testing.T) {
	wantRows(t, []row{
		{"", nil, exits("", 0, 0)},
		{"x := 5; print(x);", nil, exits("5", 4, 0)},
		{"x := 5; y := x; x = 6; print(y); print(x);", nil, exits("5 6", 10, 0)},
		{"print(k); if h { print(1); } if g == nil { print(2); }", nil, exits("0 2", 10, 0)},
		{"k = 4; print(glob()); print(k);", nil, exits("4 4", 8, 0)},
		{"h = true; if h { print(1); } h = false; if h { print(2); }", nil, exits("1", 10, 0)},
		{"g = new(T); g.n = 3; x := g; g = nil; print(x.n); if g == nil { print(4); }", nil, exits("3 4", 18, 1)},
		{"k = 3; k := k + 1; k = 8; print(k); print(glob());", nil, exits("8 3", 14, 0)},
		{"x := 1; if true { x = 2; } print(x);", nil, exits("2", 8, 0)},
		{"x := 1; if true { x := 2; x = 3; print(x); } print(x);", nil, exits("3 1", 12, 0)},
		{"x := 1; if true { y := x; x := x + y; print(x); } else { x := 7; print(x); } x = x + 4; print(x);", nil, exits("2 5", 18, 0)},
		{"if true { x := 1; print(x); } if true { x := 2; print(x); } x := true; if x { print(3); }", nil, exits("1 2 3", 18, 0)},
		{"x := 1; i := 0; for i < 2 { x := x + 10; x = x + 1; print(x); i = i + 1; } print(x);", nil, exits("12 12 1", 44, 0)},
		{"i := 0; for i < 2 { j := i; j = j + 1; i = j; } print(i);", nil, exits("2", 30, 0)},
		{"T := 1; fact := 2; main := 3; say := T + fact + main; print(say); x := new(T); x.n = 6; print(x.n);", nil, exits("6 6", 22, 1)},
		{"print(down(2));", nil, exits("0 1 2 2", 43, 0)},
		{"n := 5; bump(n); bump(n); print(n);", nil, exits("6 6 5", 22, 0)},
	})
}

// P7.1: Put and Field, of an object, of one that a field leads to, of what a
// call returns, and of nil; and Make.
func TestObjects(t *testing.T) {
	wantRows(t, []row{
		{"x := new(T); x.n = 4; print(x.n);", nil, exits("4", 8, 1)},
		{"x := new(T); print(x.n); if x.p == nil && !x.b && x.u == nil { print(1); }", nil, exits("0 1", 21, 1)},
		{"x := new(T); x.p = x; x.p.p.n = x.n + 5; print(x.p.n);", nil, exits("5", 17, 1)},
		{"x := new(T); y := new(U); x.u = y; y.t = x; x.u.m = 3; y.t.n = 4; print(x.n); print(y.m); print(x.u.t.n);", nil, exits("4 3 4", 29, 2)},
		{"x := new(T); y := new(T); x.n = 1; y.n = 2; print(x.n); print(y.n); x = y; x.n = 3; print(y.n);", nil, exits("1 2 3", 24, 2)},
		{"x := new(T); x.n = 1; x.n = x.n + x.n; x.b = x.n == 2; if x.b { print(x.n); }", nil, exits("2", 24, 1)},
		{"self(new(T)).n = 4; g = new(T); self(g).p = g; self(g.p).n = 6; print(self(g).p.n);", nil, exits("6", 28, 2)},
		{"if new(T) == new(T) { print(1); } x := new(T); y := x; if x == y { print(2); } if x != nil { print(3); } if nil == x.p { print(4); }", nil, exits("2 3 4", 27, 3)},
		{"i := 0; for i < 3 { x := new(T); x.n = i; x.p = g; g = x; i = i + 1; } for g != nil { print(g.n); g = g.p; }", nil, exits("2 1 0", 88, 3)},
		{"g = new(T); x := g; g.n = swap(); print(x.n); print(g.n);", nil, exits("5 0", 17, 2)},
		{"print(1); print(g.n); print(2);", nil, faults(api.ErrNil, "1", 5, 0)},
		{"print(1); g.n = 2; print(3);", nil, faults(api.ErrNil, "1", 5, 0)},
		{"g = new(T); print(1); g.p.n = 2;", nil, faults(api.ErrNil, "1", 8, 1)},
		{"g = new(T); print(1); print(g.u.m);", nil, faults(api.ErrNil, "1", 8, 1)},
		{"g = new(T); g.p = new(T); g.p.p.p = g;", nil, faults(api.ErrNil, "", 10, 2)},
		{"self(nil).n = 1;", nil, faults(api.ErrNil, "", 6, 0)},
		{"x := self(nil).b; print(1);", nil, faults(api.ErrNil, "", 6, 0)},
		{"x := noneP(); x.p = new(T);", nil, faults(api.ErrNil, "", 5, 1)},
	})
}

// P7.1: If, For and Return, and what they leave out.
func TestWays(t *testing.T) {
	wantRows(t, []row{
		{"if true { print(1); } print(2);", nil, exits("1 2", 6, 0)},
		{"if false { print(1); } print(2);", nil, exits("2", 4, 0)},
		{"if true { print(1); } else { print(2); }", nil, exits("1", 4, 0)},
		{"if false { print(1); } else { print(2); }", nil, exits("2", 4, 0)},
		{"if false { print(1); } else if true { print(2); } else { print(3); }", nil, exits("2", 6, 0)},
		{"if false { print(1); } else if false { print(2); } else { print(3); }", nil, exits("3", 6, 0)},
		{"if false { print(1); } else if false { print(2); }", nil, exits("", 4, 0)},
		{"if true { print(1); } else if g.b { print(2); }", nil, exits("1", 4, 0)},
		{"if true { if false { print(1); } else { print(2); } print(3); }", nil, exits("2 3", 8, 0)},
		{"if true { } else { print(1); } if false { } else { }", nil, exits("", 4, 0)},
		{"for false { print(1); } print(2);", nil, exits("2", 4, 0)},
		{"i := 3; for i > 0 { print(i); i = i - 1; } print(9);", nil, exits("3 2 1 9", 35, 0)},
		{"for k < 2 { k = k + 1; i := 0; for i < k { i = i + 1; print(k * 10 + i); } }", nil, exits("11 21 22", 69, 0)},
		{"for yes(1) == no(2) { print(3); }", nil, exits("1 2", 14, 0)},
		{"print(root(10)); print(root(0));", nil, exits("4 0", 74, 0)},
		{"loop(1); loop(7);", nil, exits("1 2", 42, 0)},
		{"print(1); return; print(2);", nil, exits("1", 3, 0)},
		{"for true { if true { return; } } print(1);", nil, exits("", 5, 0)},
		{"if true { return; } else { print(1); } print(2);", nil, exits("", 3, 0)},
		{"if false { } else if true { for true { return; } print(1); } print(2);", nil, exits("", 7, 0)},
		{"for true { print(1); if k == 1 { print(1 / 0); } k = k + 1; }", nil, faults(api.ErrZero, "1 1", 23, 0)},
	})
	endless := "func main() { for true { } }"
	for _, fuel := range []int{0, 1, 2, 1000, api.MaxFuel} {
		wantRun(t, endless, nil, fuel, spent("", fuel, 0))
	}
}

// P7.1: Do and Call: arguments, in order; what is returned, and 0 if nothing
// is; functions that call themselves and one another.
func TestCalls(t *testing.T) {
	wantRows(t, []row{
		{"say(3); say(4);", nil, exits("3 4", 14, 0)},
		{"print(say(3));", nil, exits("3 3", 7, 0)},
		{"print(add(say(1), add(say(2), say(3))));", nil, exits("1 2 3 6", 29, 0)},
		{"print(say(say(4) + say(5)));", nil, exits("4 5 9 9", 19, 0)},
		{"print(fact(5));", nil, exits("120", 53, 0)},
		{"print(fact(fact(3)));", nil, exits("720", 93, 0)},
		{"if even(2) { print(1); } if odd(2) { print(2); }", nil, exits("1", 54, 0)},
		{"print(none()); if noneB() { print(1); } if noneP() == nil { print(2); }", nil, exits("0 2", 10, 0)},
		{"print(maybe(false)); print(maybe(true)); print(maybe(false));", nil, exits("0 4 0", 17, 0)},
		{"k = 3; print(k + none());", nil, exits("3", 6, 0)},
		{"k = 1; print(k + set()); k = 1; print(set() + k);", nil, exits("2 10", 20, 0)},
		{"k = set(); print(k); print(add(k, set())); print(add(set(), k));", nil, exits("1 2 10", 32, 0)},
	})
}

// P7.1: Input answers the numbers in order, and 0 when all are read.
func TestInput(t *testing.T) {
	wantRows(t, []row{
		{"print(read());", nil, exits("0", 2, 0)},
		{"print(read());", []int{}, exits("0", 2, 0)},
		{"print(read());", []int{7, 8}, exits("7", 2, 0)},
		{"print(read()); print(read());", []int{7, -8}, exits("7 -8", 4, 0)},
		{"print(read()); print(read()); print(read());", []int{7, -8}, exits("7 -8 0", 6, 0)},
		{"print(read() - read());", []int{7, 5}, exits("2", 4, 0)},
		{"x := add(read(), say(read())); print(x); print(read());", []int{1, 2, 3}, exits("2 3 3", 17, 0)},
		{"if false && read() == 1 || true { print(read()); }", []int{4}, exits("4", 7, 0)},
		{"print(read()); print(read());", []int{math.MinInt, math.MaxInt}, exits("-9223372036854775808 9223372036854775807", 4, 0)},
		{"i := read(); for i != 0 { print(i); i = read(); }", []int{3, 2, 0, 1}, exits("3 2", 20, 0)},
	})
}

// P7.1: Unary and Binary are layer 1's, with its faults and with numbers that
// go round.
func TestNumbers(t *testing.T) {
	wantRows(t, []row{
		{"print(7 + 2); print(7 - 9); print(7 * 3); print(-7 / 2); print(-7 % 2);", nil, exits("9 -2 21 -3 -1", 22, 0)},
		{"print(6 & 3); print(6 | 3); print(6 ^ 3); print(3 << 2); print(-5 >> 1);", nil, exits("2 7 5 12 -3", 21, 0)},
		{"print(1 << 63); print(1 << 64); print(-1 >> 64); print(-1 >> 99);", nil, exits("-9223372036854775808 0 -1 -1", 18, 0)},
		{"print(9223372036854775807 + 1); print(9223372036854775807 * 2);", nil, exits("-9223372036854775808 -2", 8, 0)},
		{"print(-9223372036854775807 - 2); x := -9223372036854775807 - 1; print(-x); print(x / -1); print(x % -1);", nil,
			exits("9223372036854775807 -9223372036854775808 -9223372036854775808 0", 23, 0)},
		{"if 1 < 2 { print(1); } if 2 <= 1 { print(2); } if 1 > 2 { print(3); } if 2 >= 2 { print(4); } if 1 == 1 { print(5); } if 1 != 1 { print(6); }", nil,
			exits("1 4 5", 30, 0)},
		{"if true == false { print(1); } if true != false { print(2); } if !false { print(3); } if !!false { print(4); }", nil, exits("2 3", 19, 0)},
		{"print(--3); print(-(4 - 6)); print(1 - -1); print(0);", nil, exits("3 2 2 0", 16, 0)},
		{"print(1); print(2 / 0);", nil, faults(api.ErrZero, "1", 6, 0)},
		{"print(1); print(2 % 0);", nil, faults(api.ErrZero, "1", 6, 0)},
		{"print(1); print(2 / (k * 3)); print(4);", nil, faults(api.ErrZero, "1", 8, 0)},
		{"print(1); x := 2 << -1; print(3);", nil, faults(api.ErrShift, "1", 7, 0)},
		{"print(1); if 2 >> (0 - 1) == 0 { print(3); } print(4);", nil, faults(api.ErrShift, "1", 9, 0)},
		{"g = new(T); for 1 / k == 1 { print(1); }", nil, faults(api.ErrZero, "", 7, 1)},
	})
}

// P7.1: Both and Either ask the second one only where the first one leaves it
// open.
func TestBothEither(t *testing.T) {
	wantRows(t, []row{
		{"if yes(1) && yes(2) { print(9); }", nil, exits("1 2 9", 16, 0)},
		{"if yes(1) && no(2) { print(9); }", nil, exits("1 2", 14, 0)},
		{"if no(1) && yes(2) { print(9); }", nil, exits("1", 8, 0)},
		{"if no(1) && no(2) { print(9); }", nil, exits("1", 8, 0)},
		{"if yes(1) || yes(2) { print(9); }", nil, exits("1 9", 10, 0)},
		{"if yes(1) || no(2) { print(9); }", nil, exits("1 9", 10, 0)},
		{"if no(1) || yes(2) { print(9); }", nil, exits("1 2 9", 16, 0)},
		{"if no(1) || no(2) { print(9); }", nil, exits("1 2", 14, 0)},
		{"if no(1) && g.b || yes(2) || 1 / 0 == 0 { print(9); }", nil, exits("1 2 9", 18, 0)},
		{"h = true && true; if h == true { print(1); } h = false || false; if h == false { print(2); }", nil, exits("1 2", 20, 0)},
		{"h = false && g.b; if h == false { print(1); } h = true || g.b; if h == true { print(2); }", nil, exits("1 2", 18, 0)},
		{"if true && g.b { print(1); }", nil, faults(api.ErrNil, "", 5, 0)},
		{"if false || g.b { print(1); }", nil, faults(api.ErrNil, "", 5, 0)},
		{"if g.b && false { print(1); }", nil, faults(api.ErrNil, "", 4, 0)},
	})
}

// P7.1: kids are done in order: so it is told which of two faults is met.
func TestOrder(t *testing.T) {
	wantRows(t, []row{
		{"print(1 / 0 + (1 << -1));", nil, faults(api.ErrZero, "", 5, 0)},
		{"print((1 << -1) + 1 / 0);", nil, faults(api.ErrShift, "", 6, 0)},
		{"print(say(1) - say(2) * say(3));", nil, exits("1 2 3 -5", 21, 0)},
		{"print(say(1) / (say(2) - say(2)));", nil, faults(api.ErrZero, "1 2 2", 21, 0)},
		{"print(add(g.n, 1 / 0));", nil, faults(api.ErrNil, "", 4, 0)},
		{"print(add(1 / 0, g.n));", nil, faults(api.ErrZero, "", 5, 0)},
		{"print(add(say(1), say(1 / 0)));", nil, faults(api.ErrZero, "1", 12, 0)},
		{"say(g.n);", nil, faults(api.ErrNil, "", 4, 0)},
		{"g.n = say(6);", nil, faults(api.ErrNil, "6", 8, 0)},
		{"g.n = 1 / 0;", nil, faults(api.ErrZero, "", 5, 0)},
		{"g.p.n = say(6);", nil, faults(api.ErrNil, "", 3, 0)},
		{"g.p.n = 1 / 0;", nil, faults(api.ErrNil, "", 3, 0)},
		{"k = 1 / k; print(2);", nil, faults(api.ErrZero, "", 4, 0)},
		{"for g.b { print(1 / 0); }", nil, faults(api.ErrNil, "", 3, 0)},
		{"x := g.p.n / 0;", nil, faults(api.ErrNil, "", 5, 0)},
	})
}

// P7.1: how far a run comes with each fuel.
func TestEachFuel(t *testing.T) {
	tests := map[string][]walk.Result{
		"func main() { }":           {exits("", 0, 0), exits("", 0, 0)},
		"func main() { print(1); }": {spent("", 0, 0), spent("", 1, 0), exits("1", 2, 0), exits("1", 2, 0)},
		"func main() { print(1); print(2); }": {
			spent("", 0, 0), spent("", 1, 0), spent("1", 2, 0), spent("1", 3, 0), exits("1 2", 4, 0), exits("1 2", 4, 0),
		},
		"type T struct { n int; } var g *T; func main() { g = new(T); g = new(T); print(g.n); }": {
			spent("", 0, 0), spent("", 1, 0), spent("", 2, 1), spent("", 3, 1), spent("", 4, 2),
			spent("", 5, 2), spent("", 6, 2), exits("0", 7, 2),
		},
		"type T struct { n int; } func main() { x := new(T); x = nil; x.n = 1; }": {
			spent("", 0, 0), spent("", 1, 0), spent("", 2, 1), spent("", 3, 1), spent("", 4, 1),
			spent("", 5, 1), spent("", 6, 1), faults(api.ErrNil, "", 7, 1), faults(api.ErrNil, "", 7, 1),
		},
		"func main() { print(1); print(1 / 0); }": {
			spent("", 0, 0), spent("", 1, 0), spent("1", 2, 0), spent("1", 3, 0), spent("1", 4, 0),
			spent("1", 5, 0), faults(api.ErrZero, "1", 6, 0), faults(api.ErrZero, "1", 6, 0),
		},
		"func f() { print(1); return; } func main() { f(); if false { } }": {
			spent("", 0, 0), spent("", 1, 0), spent("", 2, 0), spent("", 3, 0), spent("1", 4, 0),
			spent("1", 5, 0), spent("1", 6, 0), exits("1", 7, 0),
		},
	}
	for s, list := range tests {
		for fuel, want := range list {
			wantRun(t, s, nil, fuel, want)
		}
	}
}

// P7.1: ErrArg, unless fuel is from 0 to 2^16.
func TestFuel(t *testing.T) {
	const s = "func main() { print(1); }"
	for _, fuel := range []int{math.MinInt, -api.MaxFuel, -2, -1, api.MaxFuel + 1, api.MaxFuel + 2, 1 << 20, 1 << 32, math.MaxInt} {
		r, err := walk.Run(s, []int{1}, fuel)
		if err != api.ErrArg || !isSame(r, walk.Result{}) {
			t.Errorf("with %d of fuel: %v, %d", fuel, r, err)
		}
	}
	wantRun(t, s, nil, 0, spent("", 0, 0))
	wantRun(t, s, nil, api.MaxFuel, exits("1", 2, 0))
}

// P7.1: the error of a source, whatever the fuel is; beside it there is nothing.
func TestWrongSources(t *testing.T) {
	tests := map[string]api.Errno{
		"":                            api.ErrMain,
		"func Main() { }":             api.ErrMain,
		"func main() int { }":         api.ErrMain,
		"func main(x int) { }":        api.ErrMain,
		"func main() {":               api.ErrForm,
		"func main() { print(1) }":    api.ErrForm,
		"func main() { print(01); }":  api.ErrForm,
		"\x00\xff":                    api.ErrForm,
		"func main() { print(1); } }": api.ErrForm,
		"func main() { print(9223372036854775808); }":               api.ErrRange,
		"func main() { print(" + strings.Repeat("-", 39) + "1); }":  api.ErrDeep,
		"func main() { }" + strings.Repeat(" ", api.MaxText):        api.ErrFull,
		"func main() { abcdefghijklm := 1; }":                       api.ErrFull,
		"func main() { print(x); }":                                 api.ErrName,
		"func main() { x := 1; x := 2; }":                           api.ErrTwice,
		"func main() { print(true); }":                              api.ErrType,
		"func main() { print(1); print(nil.n); }":                   api.ErrType,
		"func f() { g(1); } func g() { } func main() { print(1); }": api.ErrType,
	}
	for s, want := range tests {
		for _, fuel := range []int{math.MinInt, -1, 0, 100, api.MaxFuel, api.MaxFuel + 1, math.MaxInt} {
			r, err := walk.Run(s, []int{1, 2}, fuel)
			if err != want || !isSame(r, walk.Result{}) {
				t.Errorf("Run(%q, .., %d) = %v, %d; want %d", s, fuel, r, err, want)
			}
		}
		if _, _, _, err := check.Source(s); err != want {
			t.Errorf("Source(%q): %d, want %d", s, err, want)
		}
	}
	wantRun(t, "func main() { print("+strings.Repeat("-", 38)+"1); }", nil, 100, exits("1", 40, 0))
	wantRun(t, "func main() { print(2); }"+strings.Repeat(" ", api.MaxText-25), nil, 100, exits("2", 2, 0))
}

// Rule 9, P7.1: calls within calls as deep as the fuel goes.
func TestDeep(t *testing.T) {
	const count = "func f(n int) int { if n == 0 { return 0; } return 1 + f(n - 1); }"
	wantRun(t, count+" func main() { print(f(5957)); }", nil, api.MaxFuel, exits("5957", api.MaxFuel, 0))
	wantRun(t, count+" func main() { print(f(5957)); }", nil, api.MaxFuel-1, spent("", api.MaxFuel-1, 0))
	wantRun(t, count+" func main() { print(f(5958)); }", nil, api.MaxFuel, spent("", api.MaxFuel, 0))
	for _, s := range []string{
		"func f() { f(); } func main() { f(); }",
		"func main() { main(); }",
		"func f() bool { return !f(); } func main() { f(); }",
		"func f() bool { return f() && true; } func main() { f(); }",
		"func f() bool { for f() { } } func main() { f(); }",
		"func f() bool { if f() { } else { } } func main() { f(); }",
		"func f() { g(); } func g() { if true { f(); } } func main() { f(); }",
		"func f(x int) int { return f(f(x) + 1) - 2; } func main() { f(" + strings.Repeat("-", 30) + "7); }",
	} {
		wantRun(t, s, nil, api.MaxFuel, spent("", api.MaxFuel, 0))
		wantRun(t, s, nil, api.MaxFuel/2-1, spent("", api.MaxFuel/2-1, 0))
	}
	const fall = "func f(n int) int { if n == 0 { return 1 / n; } return f(n - 1); } func main() { print(3); f(5000); }"
	wantRun(t, fall, nil, api.MaxFuel, faults(api.ErrZero, "3", 2+3+5000*9+8, 0))
}

// P7.1: how many objects were made, when they are many.
func TestMany(t *testing.T) {
	const s = "type T struct { p *T; } var g *T; func main() { for true { g = new(T); } }"
	wantRun(t, s, nil, api.MaxFuel, spent("", api.MaxFuel, 21845))
	wantRun(t, s, nil, api.MaxFuel-1, spent("", api.MaxFuel-1, 21844))
	six := "(" + strings.Repeat("new(T), ", 5) + "new(T))"
	deep := "type T struct { p *T; } func f(a *T, b *T, c *T, d *T, e *T, h *T) { f" + six + "; } func main() { f" + six + "; }"
	wantRun(t, deep, nil, api.MaxFuel, spent("", api.MaxFuel, 6*8192))
	const list = "type T struct { p *T; } var g *T; func main() { i := 0; for i < 1500 { x := new(T); x.p = g; g = x; i = i + 1; } for g != nil { g = g.p; i = i - 1; } print(i); }"
	wantRun(t, list, nil, api.MaxFuel, exits("0", 2+1+1500*14+3+1+1500*10+3+2, 1500))
}

// P7.1: a long way is printed whole; what is near the greatest source is run.
func TestLong(t *testing.T) {
	r := run(t, "func main() { i := 0; for true { print(i); i = i + 1; } }", nil, api.MaxFuel)
	want := spent("", api.MaxFuel, 0)
	for i := range (api.MaxFuel-6)/7 + 1 {
		want.Out = append(want.Out, i)
	}
	if !isSame(r, want) {
		t.Errorf("%d numbers in %d steps, want %d", len(r.Out), r.Steps, len(want.Out))
	}
	sum := "func main() { print(0" + strings.Repeat("+1", 2030) + "); }"
	wantRun(t, sum, nil, api.MaxFuel, exits("2030", 1+2*2030+1, 0))
	var many strings.Builder
	for i := range 300 {
		many.WriteString("v" + strconv.Itoa(i) + " := " + strconv.Itoa(i%9) + "; ")
	}
	many.WriteString("v150 = v299 * 100 + v150 * 10 + v0; print(v150);")
	wantRun(t, "func main() { "+many.String()+" }", nil, api.MaxFuel, exits("260", 2*300+1+9+2, 0))
}

// P7.1: whether Out, End and Fault are the same; Steps and Made play no part.
func TestSame(t *testing.T) {
	whole := walk.Result{Out: []int{1, 2}, End: walk.Fault, Fault: api.ErrNil, Steps: 5, Made: 3}
	with := func(change func(*walk.Result)) walk.Result {
		r := whole
		r.Out = slices.Clone(whole.Out)
		change(&r)
		return r
	}
	tests := []struct {
		a, b walk.Result
		want bool
	}{
		{walk.Result{}, walk.Result{}, true},
		{walk.Result{Out: []int{}}, walk.Result{}, true},
		{whole, whole, true},
		{whole, with(func(r *walk.Result) {}), true},
		{whole, with(func(r *walk.Result) { r.Steps = 6 }), true},
		{whole, with(func(r *walk.Result) { r.Made = -1 }), true},
		{whole, with(func(r *walk.Result) { r.Steps, r.Made = 0, 0 }), true},
		{whole, with(func(r *walk.Result) { r.Out = nil }), false},
		{whole, with(func(r *walk.Result) { r.Out = r.Out[:1] }), false},
		{whole, with(func(r *walk.Result) { r.Out = append(r.Out, 0) }), false},
		{whole, with(func(r *walk.Result) { r.Out[0] = 3 }), false},
		{whole, with(func(r *walk.Result) { r.Out[1] = math.MinInt }), false},
		{whole, with(func(r *walk.Result) { r.Out[0], r.Out[1] = 2, 1 }), false},
		{whole, with(func(r *walk.Result) { r.End = walk.Trap }), false},
		{whole, with(func(r *walk.Result) { r.End = -1 }), false},
		{whole, with(func(r *walk.Result) { r.Fault = api.ErrZero }), false},
		{whole, with(func(r *walk.Result) { r.Fault = api.OK }), false},
		{walk.Result{End: walk.Exit}, walk.Result{End: walk.Spent}, false},
		{walk.Result{}, walk.Result{Out: []int{0}}, false},
	}
	for _, x := range tests {
		if walk.Same(x.a, x.b) != x.want || walk.Same(x.b, x.a) != x.want {
			t.Errorf("Same(%v, %v) isn't %t", x.a, x.b, x.want)
		}
	}
}

// P7.1: whether b begins with a.
func TestIsPrefix(t *testing.T) {
	tests := []struct {
		a, b []int
		want bool
	}{
		{nil, nil, true},
		{nil, []int{}, true},
		{[]int{}, nil, true},
		{[]int{}, []int{}, true},
		{nil, []int{1}, true},
		{[]int{}, []int{1}, true},
		{[]int{1}, nil, false},
		{[]int{0}, nil, false},
		{[]int{0}, []int{}, false},
		{[]int{1}, []int{1}, true},
		{[]int{1}, []int{2}, false},
		{[]int{1}, []int{1, 2}, true},
		{[]int{2}, []int{1, 2}, false},
		{[]int{1, 2}, []int{1}, false},
		{[]int{1, 2}, []int{1, 2}, true},
		{[]int{1, 2}, []int{1, 3}, false},
		{[]int{1, 2}, []int{3, 2}, false},
		{[]int{1, 2}, []int{1, 2, 3}, true},
		{[]int{1, 2}, []int{1, 3, 2}, false},
		{[]int{1, 2}, []int{0, 1, 2}, false},
		{[]int{math.MinInt, math.MaxInt}, []int{math.MinInt, math.MaxInt, 0}, true},
		{[]int{math.MinInt, math.MaxInt}, []int{math.MinInt, math.MinInt, 0}, false},
	}
	for _, x := range tests {
		if walk.IsPrefix(x.a, x.b) != x.want {
			t.Errorf("IsPrefix(%v, %v) isn't %t", x.a, x.b, x.want)
		}
	}
	spare := []int{1, 2, 3}
	if walk.IsPrefix(spare, spare[:2]) || !walk.IsPrefix(spare[:2], spare) {
		t.Error("spare room is taken for numbers")
	}
	walk.Same(walk.Result{Out: spare[:2]}, walk.Result{Out: spare})
	if !slices.Equal(spare, []int{1, 2, 3}) {
		t.Error("a row was changed:", spare)
	}
}

// Rules 3 and 4, P7.1: what is handed in isn't changed, its spare room neither
// read; what was answered may be changed, and plays no part in a later call.
func TestRows(t *testing.T) {
	const s = "func main() { x := read(); print(x); print(read()); print(read()); print(x + 1); }"
	room := []int{7, 8, 9, 10}
	want := exits("7 8 0 8", 12, 0)
	first := run(t, s, room[:2], 100)
	if !isSame(first, want) || !slices.Equal(room, []int{7, 8, 9, 10}) {
		t.Error(first, room)
	}
	for i := range first.Out {
		first.Out[i] = -1
	}
	first.Out = append(first.Out[:0], 5, 5, 5, 5, 5, 5, 5, 5)
	second := run(t, s, room[:2], 100)
	if !isSame(second, want) || !slices.Equal(room, []int{7, 8, 9, 10}) || first.Out[0] != 5 {
		t.Error(second, room, first)
	}
	room[0] = 1
	if second.Out[0] != 7 {
		t.Error("an answer shares a row that was handed in:", second)
	}
}
