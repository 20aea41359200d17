package num_test

import (
	"math/big"
	"strconv"
	"strings"
	"testing"

	"truant/api"
	"truant/num"
)

const (
	least    = -1 << 63
	greatest = 1<<63 - 1
)

// edges are numbers at which something changes: the ends, the signs, the
// widths of shifts.
func edges() []int {
	return []int{
		least, least + 1, least + 2, -1 << 62, -1<<32 - 1, -1 << 32, -1 << 31, -1000, -65, -64, -63, -7, -5, -3, -2, -1,
		0, 1, 2, 3, 5, 7, 10, 31, 32, 62, 63, 64, 65, 127, 128, 255, 256, 1000, 1 << 31, 1 << 32, 1<<32 + 1, 1 << 62, greatest - 1, greatest,
	}
}

// noOps are numbers beside those of the ops, other instructions' among them.
func noOps() []int {
	return []int{
		least, least + api.Add, -256, -18, -1, 0, 19, api.Param, api.Const, api.Call, api.Phi, 35, 64, 255, 256, 257,
		1<<32 + api.Add, 1 << 32, greatest,
	}
}

func truth(is bool) *big.Int {
	if is {
		return big.NewInt(1)
	}
	return big.NewInt(0)
}

func goRound(n *big.Int) int {
	low := new(big.Int).And(n, new(big.Int).SetUint64(1<<64-1))
	return int(low.Uint64())
}

// wide is what the document asks, reckoned without any bound of bits.
func wide(op, x, y int) (*big.Int, api.Errno) {
	a, b, z := big.NewInt(int64(x)), big.NewInt(int64(y)), new(big.Int)
	order := a.Cmp(b)
	switch op {
	case api.Add:
		return z.Add(a, b), api.OK
	case api.Sub:
		return z.Sub(a, b), api.OK
	case api.Mul:
		return z.Mul(a, b), api.OK
	case api.Quo, api.Rem:
		if y == 0 {
			return z, api.ErrZero
		}
		if op == api.Quo {
			return z.Quo(a, b), api.OK
		}
		return z.Rem(a, b), api.OK
	case api.And:
		return z.And(a, b), api.OK
	case api.Or:
		return z.Or(a, b), api.OK
	case api.Xor:
		return z.Xor(a, b), api.OK
	case api.Shl, api.Shr:
		if y < 0 {
			return z, api.ErrShift
		}
		if op == api.Shl {
			return z.Lsh(a, uint(min(y, 64))), api.OK
		}
		return z.Rsh(a, uint(min(y, 64))), api.OK
	case api.Eq:
		return truth(order == 0), api.OK
	case api.Ne:
		return truth(order != 0), api.OK
	case api.Lt:
		return truth(order < 0), api.OK
	case api.Le:
		return truth(order <= 0), api.OK
	case api.Gt:
		return truth(order > 0), api.OK
	case api.Ge:
		return truth(order >= 0), api.OK
	case api.Neg:
		return z.Neg(a), api.OK
	case api.Not:
		return truth(x == 0), api.OK
	}
	return z, api.ErrArg
}

// done is Do of what can't fault.
func done(t *testing.T, op, x, y int) int {
	t.Helper()
	n, e := num.Do(op, x, y)
	if e != api.OK {
		t.Fatalf("Do(%d, %d, %d) faults: %d", op, x, y, e)
	}
	return n
}

// P1.1
func TestWhichOpsAreBinaryAndUnary(t *testing.T) {
	for op := -300; op <= 300; op++ {
		if got, want := num.IsBinary(op), 1 <= op && op <= 16; got != want {
			t.Errorf("IsBinary(%d) is %v", op, got)
		}
		if got, want := num.IsUnary(op), op == 17 || op == 18; got != want {
			t.Errorf("IsUnary(%d) is %v", op, got)
		}
	}
	for _, op := range noOps() {
		if num.IsBinary(op) || num.IsUnary(op) {
			t.Errorf("%d is no op", op)
		}
	}
}

// P1.1
func TestDoIsWhatWiderNumbersSay(t *testing.T) {
	for op := api.Add; op <= api.Not; op++ {
		for _, x := range edges() {
			for _, y := range edges() {
				exact, wantErr := wide(op, x, y)
				want := goRound(exact)
				if got, e := num.Do(op, x, y); got != want || e != wantErr {
					t.Errorf("Do(%d, %d, %d) is %d, %d; want %d, %d", op, x, y, got, e, want, wantErr)
				}
			}
		}
	}
}

// P1.1: numbers written out, so that they hang on no other reckoning.
func TestDoByHand(t *testing.T) {
	for _, c := range []struct{ op, x, y, want int }{
		{api.Add, 2, 3, 5}, {api.Add, greatest, 1, least}, {api.Add, least, -1, greatest},
		{api.Sub, 2, 3, -1}, {api.Sub, least, 1, greatest}, {api.Sub, 0, least, least},
		{api.Mul, -6, 7, -42}, {api.Mul, least, -1, least}, {api.Mul, 1 << 32, 1 << 32, 0}, {api.Mul, greatest, greatest, 1},
		{api.Quo, -5, 2, -2}, {api.Quo, 5, -2, -2}, {api.Quo, -5, -2, 2}, {api.Quo, least, -1, least}, {api.Quo, 0, 9, 0},
		{api.Rem, -5, 2, -1}, {api.Rem, 5, -2, 1}, {api.Rem, -5, -2, -1}, {api.Rem, least, -1, 0}, {api.Rem, least, greatest, -1},
		{api.And, 6, 3, 2}, {api.And, -1, 5, 5}, {api.Or, 6, 3, 7}, {api.Or, least, 1, least + 1}, {api.Xor, 6, 3, 5}, {api.Xor, -1, 5, -6},
		{api.Shl, 3, 2, 12}, {api.Shl, -3, 2, -12}, {api.Shl, 3, 63, least}, {api.Shl, -1, 63, least}, {api.Shl, -1, 64, 0}, {api.Shl, 1, greatest, 0}, {api.Shl, 5, 0, 5},
		{api.Shr, -5, 1, -3}, {api.Shr, 5, 1, 2}, {api.Shr, -1, 63, -1}, {api.Shr, -1, 64, -1}, {api.Shr, least, greatest, -1}, {api.Shr, greatest, 64, 0}, {api.Shr, greatest, 63, 0}, {api.Shr, -5, 0, -5},
		{api.Eq, 4, 4, 1}, {api.Eq, 4, 5, 0}, {api.Ne, 4, 4, 0}, {api.Ne, 4, 5, 1},
		{api.Lt, least, greatest, 1}, {api.Lt, greatest, least, 0}, {api.Lt, 4, 4, 0}, {api.Le, 4, 4, 1}, {api.Le, 5, 4, 0},
		{api.Gt, greatest, least, 1}, {api.Gt, 4, 4, 0}, {api.Ge, 4, 4, 1}, {api.Ge, 4, 5, 0},
		{api.Neg, 5, 0, -5}, {api.Neg, least, 0, least}, {api.Neg, greatest, 0, least + 1}, {api.Not, 0, 0, 1}, {api.Not, -1, 0, 0}, {api.Not, least, 0, 0}, {api.Not, 2, 0, 0},
	} {
		if got, e := num.Do(c.op, c.x, c.y); got != c.want || e != api.OK {
			t.Errorf("Do(%d, %d, %d) is %d, %d; want %d", c.op, c.x, c.y, got, e, c.want)
		}
	}
}

// P1.1
func TestDoFaults(t *testing.T) {
	for _, x := range edges() {
		for _, op := range []int{api.Quo, api.Rem} {
			if n, e := num.Do(op, x, 0); n != 0 || e != api.ErrZero {
				t.Errorf("Do(%d, %d, 0) is %d, %d", op, x, n, e)
			}
		}
		for _, op := range []int{api.Shl, api.Shr} {
			for _, y := range []int{-1, -2, -63, -64, -65, -1 << 32, least + 1, least} {
				if n, e := num.Do(op, x, y); n != 0 || e != api.ErrShift {
					t.Errorf("Do(%d, %d, %d) is %d, %d", op, x, y, n, e)
				}
			}
		}
	}
}

// P1.1
func TestDoOfNoOp(t *testing.T) {
	for _, op := range noOps() {
		for _, x := range edges() {
			for _, y := range []int{least, -1, 0, 1, 64, greatest} {
				if n, e := num.Do(op, x, y); n != 0 || e != api.ErrArg {
					t.Errorf("Do(%d, %d, %d) is %d, %d", op, x, y, n, e)
				}
			}
		}
	}
}

// P1.1
func TestUnaryOpsDontLookAtTheSecond(t *testing.T) {
	for _, op := range []int{api.Neg, api.Not} {
		for _, x := range edges() {
			want := done(t, op, x, 0)
			for _, y := range edges() {
				if got := done(t, op, x, y); got != want {
					t.Errorf("Do(%d, %d, %d) is %d, not %d", op, x, y, got, want)
				}
			}
		}
	}
}

func signList() []string {
	return strings.Split("+ - * / % & | ^ << >> == != < <= > >= - !", " ")
}

// P1.2
func TestSign(t *testing.T) {
	for i, want := range signList() {
		if got := num.Sign(i + 1); got != want {
			t.Errorf("Sign(%d) is %q, not %q", i+1, got, want)
		}
	}
	for _, op := range noOps() {
		if got := num.Sign(op); got != "" {
			t.Errorf("Sign(%d) is %q", op, got)
		}
	}
}

// P1.2
func TestSignedIsTheWayBack(t *testing.T) {
	for i, sign := range signList() {
		op, args := i+1, 2
		if op >= api.Neg {
			args = 1
		}
		if got, is := num.Signed(sign, args); got != op || !is {
			t.Errorf("Signed(%q, %d) is %d, %v; want %d", sign, args, got, is, op)
		}
		for _, other := range []int{least, -2, -1, 0, 3, 4, 1<<32 + 1, 1<<32 + 2, greatest} {
			if got, is := num.Signed(sign, other); got != 0 || is {
				t.Errorf("Signed(%q, %d) is %d, %v", sign, other, got, is)
			}
		}
	}
}

// P1.2
func TestSignedOfAnotherCount(t *testing.T) {
	for _, sign := range signList() {
		if sign == "-" {
			continue
		}
		args := 1
		if sign == "!" {
			args = 2
		}
		if got, is := num.Signed(sign, args); got != 0 || is {
			t.Errorf("Signed(%q, %d) is %d, %v", sign, args, got, is)
		}
	}
}

// P1.2
func TestSignedOfNoSign(t *testing.T) {
	for _, sign := range []string{"", " ", "=", "&&", "||", "<>", "=<", "=>", "<<<", ">>>", "===", "--", "++", "-1", " -", "- ", "+ ", "~", "neg", "\x00", "\xff", "−", "1"} {
		for args := -1; args <= 3; args++ {
			if got, is := num.Signed(sign, args); got != 0 || is {
				t.Errorf("Signed(%q, %d) is %d, %v", sign, args, got, is)
			}
		}
	}
}

// P1.2
func TestLevel(t *testing.T) {
	want := map[string]int{
		"*": 5, "/": 5, "%": 5, "<<": 5, ">>": 5, "&": 5,
		"+": 4, "-": 4, "|": 4, "^": 4,
		"==": 3, "!=": 3, "<": 3, "<=": 3, ">": 3, ">=": 3,
	}
	for i, sign := range signList()[:16] {
		if got := num.Level(i + 1); got != want[sign] {
			t.Errorf("Level(%d) is %d, not %d", i+1, got, want[sign])
		}
	}
	for _, op := range append(noOps(), api.Neg, api.Not) {
		if got := num.Level(op); got != 0 {
			t.Errorf("Level(%d) is %d", op, got)
		}
	}
}

// P1.2
func TestSwap(t *testing.T) {
	want := map[int]int{
		api.Add: api.Add, api.Mul: api.Mul, api.And: api.And, api.Or: api.Or, api.Xor: api.Xor, api.Eq: api.Eq, api.Ne: api.Ne,
		api.Lt: api.Gt, api.Gt: api.Lt, api.Le: api.Ge, api.Ge: api.Le,
	}
	for op := -300; op <= 300; op++ {
		if got := num.Swap(op); got != want[op] {
			t.Errorf("Swap(%d) is %d, not %d", op, got, want[op])
		}
	}
	for _, op := range noOps() {
		if got := num.Swap(op); got != 0 {
			t.Errorf("Swap(%d) is %d", op, got)
		}
	}
}

// P1.2: what Swap says of Do.
func TestSwapIsTheSameWithBothChanged(t *testing.T) {
	for op := api.Add; op <= api.Ge; op++ {
		swapped := num.Swap(op)
		if swapped == 0 {
			continue
		}
		for _, x := range edges() {
			for _, y := range edges() {
				if a, b := done(t, op, x, y), done(t, swapped, y, x); a != b {
					t.Errorf("%d of %d, %d is %d; %d changed is %d", op, x, y, a, swapped, b)
				}
			}
		}
	}
}

// P1.3
func TestTextAndParse(t *testing.T) {
	for _, c := range []struct {
		n int
		s string
	}{
		{0, "0"}, {1, "1"}, {-1, "-1"}, {9, "9"}, {10, "10"}, {-10, "-10"}, {100, "100"}, {-907, "-907"},
		{1 << 62, "4611686018427387904"}, {greatest - 1, "9223372036854775806"}, {greatest, "9223372036854775807"},
		{least + 1, "-9223372036854775807"}, {least, "-9223372036854775808"},
	} {
		if got := num.Text(c.n); got != c.s {
			t.Errorf("Text(%d) is %q", c.n, got)
		}
		if got, e := num.Parse(c.s); got != c.n || e != api.OK {
			t.Errorf("Parse(%q) is %d, %d", c.s, got, e)
		}
	}
}

// P1.3
func TestParseOfNoNumber(t *testing.T) {
	nines := strings.Repeat("9", 30)
	for _, s := range []string{
		"", "-", "--", "--1", "-+1", "+-1", "+", "+1", "+0", "-0", "-00", "00", "01", "-01", "007", "0x1", "0b1", "0o7", "1e3", "1.0", ".5", "1.",
		" 1", "1 ", "- 1", "1\n", "1_000", "1,000", "1x", "x1", "x", "1-", "1-1", "1-0", "0-", "0x", "inf", "nil", "a", "/", ":",
		"\x00", "1\x00", "\xff", "1\xff", "\u0661", "\uff11", "\u22121",
		nines + "x", "-" + nines + "x", "0" + nines, "-0" + nines, "+" + nines, nines + " ", nines + "_0", strings.Repeat("0", 10000),
	} {
		if n, e := num.Parse(s); n != 0 || e != api.ErrForm {
			t.Errorf("Parse(%q) is %d, %d", s, n, e)
		}
	}
}

// P1.3
func TestParseOutsideTheRange(t *testing.T) {
	for _, s := range []string{
		"9223372036854775808", "-9223372036854775809", "9223372036854775810", "9300000000000000000", "-9300000000000000000",
		"10000000000000000000", "-10000000000000000000", "18446744073709551615", "18446744073709551616", "18446744073709551617", "-18446744073709551616", "-18446744073709551617",
		"36893488147419103233", "340282366920938463463374607431768211457", strings.Repeat("9", 10000), "-1" + strings.Repeat("0", 10000),
	} {
		if n, e := num.Parse(s); n != 0 || e != api.ErrRange {
			t.Errorf("Parse(%q) is %d, %d", s, n, e)
		}
	}
}

// P1.3: all short texts of signs, digits and one that is neither.
func TestParseOfShortTexts(t *testing.T) {
	texts := []string{""}
	for range 5 {
		var longer []string
		for _, s := range texts {
			for _, c := range "-+019 " {
				longer = append(longer, s+string(c))
			}
		}
		for _, s := range longer {
			plain, err := strconv.Atoi(s)
			isNumber := err == nil && strconv.Itoa(plain) == s
			got, e := num.Parse(s)
			if isNumber && (got != plain || e != api.OK) || !isNumber && (got != 0 || e != api.ErrForm) {
				t.Errorf("Parse(%q) is %d, %d", s, got, e)
			}
		}
		texts = longer
	}
}

// P1.4
func TestQuoAndRemMakeUpTheirNumber(t *testing.T) {
	for _, x := range edges() {
		for _, y := range edges() {
			if y == 0 {
				continue
			}
			quo, rem := done(t, api.Quo, x, y), done(t, api.Rem, x, y)
			if done(t, api.Add, done(t, api.Mul, y, quo), rem) != x {
				t.Errorf("%d by %d: %d and %d", x, y, quo, rem)
			}
			if rem != 0 && (rem < 0) != (x < 0) {
				t.Errorf("Rem of %d and %d is %d", x, y, rem)
			}
		}
	}
}

// P1.4
func TestShiftsByOne(t *testing.T) {
	for _, x := range edges() {
		if got := done(t, api.Shl, x, 1); got != done(t, api.Mul, x, 2) {
			t.Errorf("twice %d is %d", x, got)
		}
		half := done(t, api.Shr, x, 1)
		if rest := x - 2*half; rest != 0 && rest != 1 {
			t.Errorf("half of %d is %d", x, half)
		}
		for y := range 70 {
			if done(t, api.Shl, x, y+1) != done(t, api.Shl, done(t, api.Shl, x, y), 1) {
				t.Errorf("Shl of %d by %d and one more", x, y)
			}
			if done(t, api.Shr, x, y+1) != done(t, api.Shr, done(t, api.Shr, x, y), 1) {
				t.Errorf("Shr of %d by %d and one more", x, y)
			}
		}
	}
}

// P1.4
func TestTextTellsItsNumber(t *testing.T) {
	numbers := edges()
	for n := -1100; n <= 1100; n++ {
		numbers = append(numbers, n)
	}
	for power := 1; power < greatest/10; power *= 10 {
		numbers = append(numbers, power-1, power, power+1, -power-1, -power, 1-power)
	}
	for _, n := range numbers {
		if got, e := num.Parse(num.Text(n)); got != n || e != api.OK {
			t.Errorf("Parse(Text(%d)) is %d, %d", n, got, e)
		}
	}
}

// FuzzCalls holds all calls against P1: none panics, whatever it is given.
func FuzzCalls(f *testing.F) {
	f.Add(api.Quo, least, -1, "-0")
	f.Add(api.Shl, 1, least, "-")
	f.Add(least, 0, 0, "")
	f.Add(greatest, greatest, greatest, "\xff")
	f.Fuzz(func(t *testing.T, op, x, y int, s string) {
		exact, wantErr := wide(op, x, y)
		want := goRound(exact)
		if n, e := num.Do(op, x, y); n != want || e != wantErr {
			t.Errorf("Do(%d, %d, %d) is %d, %d; want %d, %d", op, x, y, n, e, want, wantErr)
		}
		if n, e := num.Parse(s); e == api.OK && num.Text(n) != s {
			t.Errorf("Parse(%q) is %d", s, n)
		}
		if n, is := num.Signed(s, x); is && num.Sign(n) != s {
			t.Errorf("Signed(%q, %d) is %d", s, x, n)
		}
		num.Sign(op)
		num.Level(op)
		num.Swap(op)
	})
}
