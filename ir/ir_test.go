package ir_test

import (
	"math"
	"slices"
	"strconv"
	"strings"
	"testing"

	"truant/api"
	"truant/ir"
)

// opTable is the document's, with one row for each op: its number, its word,
// how many args, and whether it is quiet.
const opTable = `
1 add 2 quiet
2 sub 2 quiet
3 mul 2 quiet
4 quo 2 loud
5 rem 2 loud
6 and 2 quiet
7 or 2 quiet
8 xor 2 quiet
9 shl 2 loud
10 shr 2 loud
11 eq 2 quiet
12 ne 2 quiet
13 lt 2 quiet
14 le 2 quiet
15 gt 2 quiet
16 ge 2 quiet
17 neg 1 quiet
18 not 1 quiet
20 param 0 quiet
21 const 0 quiet
22 flag 0 quiet
23 nil 0 quiet
24 new 0 loud
25 load 1 loud
26 store 2 loud
27 get 0 quiet
28 put 1 loud
29 gload 0 quiet
30 gstore 1 loud
31 call -1 loud
32 print 1 loud
33 read 0 loud
34 phi -1 quiet`

type opRow struct {
	op    int
	word  string
	args  int
	quiet bool
}

func opRows(t *testing.T) []opRow {
	t.Helper()
	var rows []opRow
	for _, text := range strings.Split(strings.TrimSpace(opTable), "\n") {
		parts := strings.Fields(text)
		op, wrong := strconv.Atoi(parts[0])
		args, wrongToo := strconv.Atoi(parts[2])
		if wrong != nil || wrongToo != nil {
			t.Fatal(text)
		}
		rows = append(rows, opRow{op, parts[1], args, parts[3] == "quiet"})
	}
	return rows
}

func wantOp(t *testing.T, is bool, want opRow) {
	t.Helper()
	got := opRow{want.op, ir.Word(want.op), ir.Args(want.op), ir.IsQuiet(want.op)}
	if ir.IsOp(want.op) != is || got != want {
		t.Errorf("of the op %d: %v, %v; want %v, %v", want.op, ir.IsOp(want.op), got, is, want)
	}
}

func TestEachOpOfTheTable(t *testing.T) {
	rows := opRows(t)
	if len(rows) != 33 {
		t.Fatal(len(rows))
	}
	for _, row := range rows {
		wantOp(t, true, row)
	}
}

func TestOpsAreThoseOfApi(t *testing.T) {
	words := map[int]string{
		api.Add: "add", api.Sub: "sub", api.Mul: "mul", api.Quo: "quo", api.Rem: "rem",
		api.And: "and", api.Or: "or", api.Xor: "xor", api.Shl: "shl", api.Shr: "shr",
		api.Eq: "eq", api.Ne: "ne", api.Lt: "lt", api.Le: "le", api.Gt: "gt", api.Ge: "ge",
		api.Neg: "neg", api.Not: "not", api.Param: "param", api.Const: "const",
		api.Flag: "flag", api.Nil: "nil", api.New: "new", api.Load: "load",
		api.Store: "store", api.Get: "get", api.Put: "put", api.GLoad: "gload",
		api.GStore: "gstore", api.Call: "call", api.Print: "print", api.Read: "read",
		api.Phi: "phi",
	}
	for op, word := range words {
		if got := ir.Word(op); got != word {
			t.Errorf("Word(%d) = %q, want %q", op, got, word)
		}
	}
}

// noOps are none: those beside the table's, the ends of 64 bits, and such as
// would be of the table in fewer bits.
func noOps() []int {
	list := []int{0, 19, math.MinInt, math.MinInt + 1, math.MaxInt, math.MaxInt - 1}
	for op := 35; op < 300; op++ {
		list = append(list, op)
	}
	for op := 1; op < 300; op++ {
		list = append(list, -op)
	}
	for bits := 8; bits < 63; bits++ {
		list = append(list, 1<<bits+1, 1<<bits+24, 24-1<<bits)
	}
	return list
}

func TestNoOps(t *testing.T) {
	for _, op := range noOps() {
		wantOp(t, false, opRow{op: op, args: -1})
	}
}

func wantUses(t *testing.T, f api.Fun, place int, want ...int) {
	t.Helper()
	if uses := ir.Uses(f, place); !slices.Equal(uses, want) {
		t.Errorf("Uses(%d) = %v, want %v", place, uses, want)
	}
}

// with is an instruction with those args.
func with(op int, args ...int) api.Ins { return api.Ins{Op: op, Args: args} }

// lists are blocks with those places, each of which returns nothing.
func lists(rows ...[]int) []api.Block {
	var blocks []api.Block
	for _, row := range rows {
		blocks = append(blocks, api.Block{List: row, Jump: api.Ret, Arg: -1})
	}
	return blocks
}

func TestUsesInOrder(t *testing.T) {
	f := api.Fun{
		Ins: []api.Ins{
			with(api.Const), with(api.Print, 0), with(api.Add, 0, 1), with(api.Add, 5, 0),
			with(api.Call, 1, 2, 0), with(api.Read), with(api.Phi, 5, 5),
		},
		Blocks: lists([]int{6, 3}, []int{4, 0}, []int{5, 2, 1}),
	}
	wantUses(t, f, 0, 1, 2, 3, 4)
	wantUses(t, f, 1, 2, 4)
	wantUses(t, f, 2, 4)
	wantUses(t, f, 3)
	wantUses(t, f, 4)
	wantUses(t, f, 5, 3, 6)
	wantUses(t, f, 6)
	wantUses(t, f, 7)
	wantUses(t, f, -1)
}

func TestUsesTellEachOnce(t *testing.T) {
	f := api.Fun{
		Ins:    []api.Ins{with(api.Const), with(api.Add, 0, 0), with(api.Phi, 0, 1, 0, 1, 0)},
		Blocks: lists([]int{2, 1, 2}, []int{1}, []int{0, 2, 1, 1}),
	}
	wantUses(t, f, 0, 1, 2)
	wantUses(t, f, 1, 2)
}

func TestUsesOnlyOfListed(t *testing.T) {
	ins := []api.Ins{with(api.Const), with(api.Print, 0), with(api.Print, 0), with(api.Print, 0)}
	wantUses(t, api.Fun{Ins: ins}, 0)
	wantUses(t, api.Fun{Ins: ins, Blocks: lists(nil, []int{})}, 0)
	wantUses(t, api.Fun{Ins: ins, Blocks: lists([]int{2})}, 0, 2)
	wantUses(t, api.Fun{Ins: ins, Blocks: lists([]int{3}, []int{}, []int{1})}, 0, 1, 3)
	// The value itself needn't be listed.
	wantUses(t, api.Fun{Ins: ins, Blocks: lists([]int{1, 2, 3})}, 0, 1, 2, 3)
}

func TestUsesDontCountEnds(t *testing.T) {
	f := api.Fun{Ins: []api.Ins{with(api.Flag)}, Blocks: []api.Block{
		{List: []int{0}, Jump: api.If, Arg: 0, To: [2]int{1, 2}},
		{Jump: api.Ret, Arg: 0},
		{Jump: api.Goto, To: [2]int{0, 0}},
	}}
	wantUses(t, f, 0)
}

func TestUsesOfItself(t *testing.T) {
	f := api.Fun{Ins: []api.Ins{with(api.Phi, 0, 1), with(api.Add, 0, 1)}, Blocks: lists([]int{0, 1})}
	wantUses(t, f, 0, 0, 1)
	wantUses(t, f, 1, 0, 1)
}

func TestUsesOfWrongFunctions(t *testing.T) {
	wantUses(t, api.Fun{}, 0)
	wantUses(t, api.Fun{}, -1)
	wantUses(t, api.Fun{Blocks: lists([]int{0, -1, 7, math.MinInt, math.MaxInt})}, 0)
	f := api.Fun{
		Ins:    []api.Ins{with(19, 0), with(0, 2, -1), with(-5, math.MaxInt), with(api.Add, math.MinInt, 4), with(api.New, 3)},
		Blocks: lists([]int{-1, 5, 4, math.MaxInt, 3, 2, math.MinInt, 1, 0}),
	}
	// An op that is none is an instruction's, too; and an arg that leads
	// nowhere is asked for by its number.
	wantUses(t, f, 0, 0)
	wantUses(t, f, 2, 1)
	wantUses(t, f, -1, 1)
	wantUses(t, f, math.MaxInt, 2)
	wantUses(t, f, math.MinInt, 3)
	wantUses(t, f, 4, 3)
	wantUses(t, f, 3, 4)
	wantUses(t, f, 5)
}

// TestUsesOfTheGreatest has as many instructions and blocks as may be.
func TestUsesOfTheGreatest(t *testing.T) {
	f := api.Fun{Ins: make([]api.Ins, api.MaxIns), Blocks: make([]api.Block, api.MaxBlocks)}
	var odd []int
	for at := range f.Ins {
		f.Ins[at] = with(api.Print, at%2)
		block := &f.Blocks[at%len(f.Blocks)]
		block.List = append(block.List, api.MaxIns-1-at)
		if at%2 == 1 {
			odd = append(odd, at)
		}
	}
	wantUses(t, f, 1, odd...)
	if lines := ir.Lines(api.Prog{Funs: []api.Fun{f}}); len(lines) != 1+2*api.MaxBlocks+api.MaxIns {
		t.Error(len(lines))
	}
}
