// Package num is layer 1: numbers of 64 bits. See shared/doc/01-num.md.
package num

import (
	"strconv"
	"strings"

	"truant/api"
)

// signs is read by op; the place 0 belongs to no op.
var signs = [19]string{
	"", "+", "-", "*", "/", "%", "&", "|", "^", "<<", ">>",
	"==", "!=", "<", "<=", ">", ">=", "-", "!",
}

// IsBinary: whether it takes two numbers.
func IsBinary(op int) bool { return api.Add <= op && op <= api.Ge }

// IsUnary: whether it takes one.
func IsUnary(op int) bool { return op == api.Neg || op == api.Not }

// Do: what comes out; ErrArg, ErrZero, ErrShift.
func Do(op, x, y int) (int, api.Errno) {
	if !IsBinary(op) && !IsUnary(op) {
		return 0, api.ErrArg
	}
	if fault := faultOf(op, y); fault != api.OK {
		return 0, fault
	}
	switch {
	case op <= api.Rem:
		return reckon(op, x, y), api.OK
	case op <= api.Shr:
		return doBits(op, x, y), api.OK
	case op <= api.Ge:
		return truth(compare(op, x, y)), api.OK
	case op == api.Neg:
		return -x, api.OK
	}
	return truth(x == 0), api.OK
}

// faultOf looks at y alone, since no op faults for its x.
func faultOf(op, y int) api.Errno {
	switch op {
	case api.Quo, api.Rem:
		if y == 0 {
			return api.ErrZero
		}
	case api.Shl, api.Shr:
		if y < 0 {
			return api.ErrShift
		}
	}
	return api.OK
}

// reckon relies on Go's own division, which neither panics nor leaves the
// 64 bits at -2^63 by -1.
func reckon(op, x, y int) int {
	switch op {
	case api.Add:
		return x + y
	case api.Sub:
		return x - y
	case api.Mul:
		return x * y
	case api.Quo:
		return x / y
	}
	return x % y
}

// doBits shifts left without a sign, so that bits only fall out at the top;
// it shifts right with one, so that the sign comes in from there.
func doBits(op, x, y int) int {
	switch op {
	case api.And:
		return x & y
	case api.Or:
		return x | y
	case api.Xor:
		return x ^ y
	case api.Shl:
		return int(uint(x) << uint(y))
	}
	return x >> uint(y)
}

func compare(op, x, y int) bool {
	switch op {
	case api.Eq:
		return x == y
	case api.Ne:
		return x != y
	case api.Lt:
		return x < y
	case api.Le:
		return x <= y
	case api.Gt:
		return x > y
	}
	return x >= y
}

func truth(is bool) int {
	if is {
		return 1
	}
	return 0
}

// Sign: how it is written.
func Sign(op int) string {
	if !IsBinary(op) && !IsUnary(op) {
		return ""
	}
	return signs[op]
}

// Signed: the way back; false: there is none.
func Signed(sign string, args int) (int, bool) {
	switch args {
	case 1:
		return signedAmong(sign, api.Neg, api.Not)
	case 2:
		return signedAmong(sign, api.Add, api.Ge)
	}
	return 0, false
}

func signedAmong(sign string, first, last int) (int, bool) {
	for op := first; op <= last; op++ {
		if signs[op] == sign {
			return op, true
		}
	}
	return 0, false
}

// Level: how tightly it binds.
func Level(op int) int {
	switch op {
	case api.Mul, api.Quo, api.Rem, api.Shl, api.Shr, api.And:
		return 5
	case api.Add, api.Sub, api.Or, api.Xor:
		return 4
	case api.Eq, api.Ne, api.Lt, api.Le, api.Gt, api.Ge:
		return 3
	}
	return 0
}

// Swap: with both arguments changed.
func Swap(op int) int {
	switch op {
	case api.Add, api.Mul, api.And, api.Or, api.Xor, api.Eq, api.Ne:
		return op
	case api.Lt:
		return api.Gt
	case api.Gt:
		return api.Lt
	case api.Le:
		return api.Ge
	case api.Ge:
		return api.Le
	}
	return 0
}

// Text: a number's digits.
func Text(n int) string { return strconv.Itoa(n) }

// Parse: the way back; ErrForm, ErrRange.
func Parse(s string) (int, api.Errno) {
	if !isForm(s) {
		return 0, api.ErrForm
	}
	n, err := strconv.Atoi(s)
	if err != nil {
		// The form is right, so only the range can be wrong.
		return 0, api.ErrRange
	}
	return n, api.OK
}

// isForm is asked ahead of strconv, which takes a + and zeros ahead too.
func isForm(s string) bool {
	if s == "0" {
		return true
	}
	digits := strings.TrimPrefix(s, "-")
	if digits == "" || digits[0] == '0' {
		return false
	}
	for i := range len(digits) {
		if digits[i] < '0' || digits[i] > '9' {
			return false
		}
	}
	return true
}
