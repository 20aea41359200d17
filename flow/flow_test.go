package flow_test

import (
	"fmt"
	"math"
	"runtime/debug"
	"slices"
	"strconv"
	"strings"
	"testing"

	"truant/api"
	"truant/flow"
)

const (
	least    = "-9223372036854775808"
	greatest = "9223372036854775807"
)

// fun reads blocks, with a semicolon between each two: goto, if, ret, or jump
// and its number; then what stands in To, as far as it is told.
func fun(t *testing.T, text string) api.Fun {
	t.Helper()
	var f api.Fun
	for _, part := range strings.Split(text, ";") {
		words := strings.Fields(part)
		if len(words) == 0 {
			continue
		}
		b := api.Block{Jump: map[string]int{"goto": api.Goto, "if": api.If, "ret": api.Ret}[words[0]]}
		rest := numbers(t, words[1:])
		if words[0] == "jump" {
			b.Jump, rest = rest[0], rest[1:]
		}
		copy(b.To[:], rest)
		f.Blocks = append(f.Blocks, b)
	}
	return f
}

func numbers(t *testing.T, words []string) []int {
	t.Helper()
	var list []int
	for _, word := range words {
		n, wrong := strconv.Atoi(word)
		if wrong != nil {
			t.Fatal(wrong)
		}
		list = append(list, n)
	}
	return list
}

// rows tells each row, with a semicolon between each two.
func rows(list [][]int) string {
	var texts []string
	for _, row := range list {
		text := "-"
		if len(row) > 0 {
			text = strings.Trim(fmt.Sprint(row), "[]")
		}
		texts = append(texts, text)
	}
	return strings.Join(texts, "; ")
}

func eachNext(f api.Fun) [][]int {
	list := make([][]int, len(f.Blocks))
	for block := range f.Blocks {
		list[block] = flow.Next(f, block)
	}
	return list
}

// told is all that is answered of a function's ways, as text.
type told struct {
	next, ahead, reached, order, back string
}

func tell(f api.Fun) told {
	reached := ""
	for _, is := range flow.Reached(f) {
		reached += map[bool]string{true: "y", false: "n"}[is]
	}
	back := fmt.Sprint(flow.Back(f))
	return told{rows(eachNext(f)), rows(flow.Ahead(f)), reached, rows([][]int{flow.Order(f)}), back[1 : len(back)-1]}
}

// shape is a function's blocks, and what is answered of them.
type shape struct {
	name   string
	blocks string
	want   told
}

func wantShapes(t *testing.T, shapes []shape) {
	t.Helper()
	for _, s := range shapes {
		if got := tell(fun(t, s.blocks)); got != s.want {
			t.Errorf("%s (%s):\n%+v, want\n%+v", s.name, s.blocks, got, s.want)
		}
	}
}

func TestShapesWithoutLoops(t *testing.T) {
	wantShapes(t, []shape{
		{"none", "", told{"", "", "", "-", ""}},
		{"one", "ret", told{"-", "-", "y", "0", ""}},
		{"chain", "goto 1; goto 2; goto 3; ret", told{"1; 2; 3; -", "-; 0; 1; 2", "yyyy", "0 1 2 3", ""}},
		{"chain from its end", "goto 3; ret; goto 1; goto 2", told{"3; -; 1; 2", "-; 2; 3; 0", "yyyy", "0 3 2 1", ""}},
		{"fork that meets again", "if 1 2; goto 3; goto 3; ret", told{"1 2; 3; 3; -", "-; 0; 0; 1 2", "yyyy", "0 2 1 3", ""}},
		{"fork the other way round", "if 2 1; goto 3; goto 3; ret", told{"2 1; 3; 3; -", "-; 0; 0; 1 2", "yyyy", "0 1 2 3", ""}},
		{"fork that doesn't meet", "if 1 2; ret; ret", told{"1 2; -; -", "-; 0; 0", "yyy", "0 2 1", ""}},
		{"half a fork", "if 1 2; goto 2; ret", told{"1 2; 2; -", "-; 0; 0 1", "yyy", "0 1 2", ""}},
		{"the other half", "if 2 1; goto 2; ret", told{"2 1; 2; -", "-; 0; 0 1", "yyy", "0 1 2", ""}},
		{"fork in a fork", "if 1 2; if 3 4; goto 5; goto 5; goto 5; ret", told{"1 2; 3 4; 5; 5; 5; -", "-; 0; 0; 1; 1; 2 3 4", "yyyyyy", "0 2 1 4 3 5", ""}},
		{"one meets late", "if 1 2; goto 4; goto 3; goto 4; ret", told{"1 2; 4; 3; 4; -", "-; 0; 0; 2; 1 3", "yyyyy", "0 2 3 1 4", ""}},
	})
}

func TestShapesWithLoops(t *testing.T) {
	wantShapes(t, []shape{
		{"loop", "goto 1; if 2 3; goto 1; ret", told{"1; 2 3; 1; -", "-; 0 2; 1; 1", "yyyy", "0 1 3 2", "[2 1]"}},
		{"loop whose body is told last", "goto 1; if 3 2; goto 1; ret", told{"1; 3 2; 1; -", "-; 0 2; 1; 1", "yyyy", "0 1 2 3", "[2 1]"}},
		{"loop of one", "goto 1; if 1 2; ret", told{"1; 1 2; -", "-; 0 1; 1", "yyy", "0 1 2", "[1 1]"}},
		{"loop asked at its end", "goto 1; goto 2; if 1 3; ret", told{"1; 2; 1 3; -", "-; 0 2; 1; 2", "yyyy", "0 1 2 3", "[2 1]"}},
		{"loop in a loop", "goto 1; if 2 5; if 3 4; goto 2; goto 1; ret", told{"1; 2 5; 3 4; 2; 1; -", "-; 0 4; 1 3; 2; 2; 1", "yyyyyy", "0 1 5 2 4 3", "[3 2] [4 1]"}},
		{"loop with two ways in", "if 1 2; goto 2; if 1 3; ret", told{"1 2; 2; 1 3; -", "-; 0 2; 0 1; 2", "yyyy", "0 1 2 3", "[2 1]"}},
		{"the same, come to elsewhere first", "if 2 1; goto 2; if 1 3; ret", told{"2 1; 2; 1 3; -", "-; 0 2; 0 1; 2", "yyyy", "0 2 3 1", "[1 2]"}},
		{"two loops, one behind the other", "goto 1; if 1 2; if 2 3; ret", told{"1; 1 2; 2 3; -", "-; 0 1; 1 2; 2", "yyyy", "0 1 2 3", "[1 1] [2 2]"}},
		{"back to the block 0", "goto 1; goto 0", told{"1; 0", "1; 0", "yy", "0 1", "[1 0]"}},
		{"the block 0 alone", "goto 0", told{"0", "0", "y", "0", "[0 0]"}},
		{"the block 0, or on", "if 0 1; ret", told{"0 1; -", "0; 0", "yy", "0 1", "[0 0]"}},
		{"a loop without an end", "goto 1; goto 2; goto 1", told{"1; 2; 1", "-; 0 2; 1", "yyy", "0 1 2", "[2 1]"}},
		{"all lead back to one", "if 1 2; if 0 3; if 0 3; goto 0", told{"1 2; 0 3; 0 3; 0", "1 2 3; 0; 0; 1 2", "yyyy", "0 2 1 3", "[1 0] [2 0] [3 0]"}},
	})
}

func TestShapesNotReached(t *testing.T) {
	wantShapes(t, []shape{
		{"one", "ret; ret", told{"-; -", "-; -", "yn", "0", ""}},
		{"one leads to one that is", "goto 2; goto 2; ret", told{"2; 2; -", "-; -; 0 1", "yny", "0 2", ""}},
		{"one leads to the block 0", "ret; goto 0", told{"-; 0", "1; -", "yn", "0", ""}},
		{"loop", "ret; goto 2; goto 1", told{"-; 2; 1", "-; 2; 1", "ynn", "0", ""}},
		{"itself", "ret; goto 1; if 2 0", told{"-; 1; 2 0", "2; 1; 2", "ynn", "0", ""}},
		{"a loop, and one that is", "goto 3; goto 2; if 1 3; if 3 0", told{"3; 2; 1 3; 3 0", "3; 2; 1; 0 2 3", "ynny", "0 3", "[3 0] [3 3]"}},
		{"in between", "goto 2; goto 3; goto 4; goto 1; ret", told{"2; 3; 4; 1; -", "-; 3; 0; 1; 2", "ynyny", "0 2 4", ""}},
	})
}

func TestShapesOfEnds(t *testing.T) {
	wantShapes(t, []shape{
		{"an If with both the same", "if 1 1; ret", told{"1; -", "-; 0", "yy", "0 1", ""}},
		{"an If with both itself", "if 0 0", told{"0", "0", "y", "0", "[0 0]"}},
		{"an If with both the same, behind", "goto 1; if 0 0", told{"1; 0", "1; 0", "yy", "0 1", "[1 0]"}},
		{"an If's first isn't there", "if 2 1; ret", told{"1; -", "-; 0", "yy", "0 1", ""}},
		{"an If's second isn't there", "if 1 2; ret", told{"1; -", "-; 0", "yy", "0 1", ""}},
		{"an If's first is below 0", "if -1 1; ret", told{"1; -", "-; 0", "yy", "0 1", ""}},
		{"an If's second is below 0", "if 1 -1; ret", told{"1; -", "-; 0", "yy", "0 1", ""}},
		{"an If's aren't there", "if 2 3; ret", told{"-; -", "-; -", "yn", "0", ""}},
		{"an If's are the same, and not there", "if 2 2; ret", told{"-; -", "-; -", "yn", "0", ""}},
		{"an If's are the ends", "if " + least + " " + greatest + "; if " + greatest + " 0", told{"-; 0", "1; -", "yn", "0", ""}},
		{"a Goto one behind the last", "goto 2; goto 0", told{"-; 0", "1; -", "yn", "0", ""}},
		{"a Goto below 0", "goto -1; goto 0", told{"-; 0", "1; -", "yn", "0", ""}},
		{"a Goto to the greatest", "goto " + greatest + "; ret", told{"-; -", "-; -", "yn", "0", ""}},
		{"a Goto to the least", "goto " + least + "; ret", told{"-; -", "-; -", "yn", "0", ""}},
		{"a Goto whose To[1] names a block", "goto 1 2; ret; ret", told{"1; -; -", "-; 0; -", "yyn", "0 1", ""}},
		{"a Goto whose To[1] alone names a block", "goto 3 2; ret; ret", told{"-; -; -", "-; -; -", "ynn", "0", ""}},
		{"a Goto whose To[1] isn't there", "goto 1 -5; ret", told{"1; -", "-; 0", "yy", "0 1", ""}},
		{"a Ret whose To name blocks", "ret 1 2; ret; ret", told{"-; -; -", "-; -; -", "ynn", "0", ""}},
		{"a Jump 0", "jump 0 1 2; ret; ret", told{"-; -; -", "-; -; -", "ynn", "0", ""}},
		{"a Jump 4", "jump 4 1 2; ret; ret", told{"-; -; -", "-; -; -", "ynn", "0", ""}},
		{"a Jump below 0", "jump -1 1 2; ret; ret", told{"-; -; -", "-; -; -", "ynn", "0", ""}},
		{"Jumps below 0", "jump -2 1 2; jump -3 0 0; ret", told{"-; -; -", "-; -; -", "ynn", "0", ""}},
		{"Jumps at the ends", "jump " + least + " 1 2; jump " + greatest + " 0 2; ret", told{"-; -; -", "-; -; -", "ynn", "0", ""}},
		{"a Jump of other bits", "jump 4294967297 1 0; jump 258 0 1; ret", told{"-; -; -", "-; -; -", "ynn", "0", ""}},
		{"Tos of other bits", "goto 4294967297; goto 1; if 4294967296 -4294967295", told{"-; 1; -", "-; 1; -", "ynn", "0", ""}},
	})
}

// TestOrderGoesInDepth: a block is come to by the first way that leads there,
// not when it is named first.
func TestOrderGoesInDepth(t *testing.T) {
	wantShapes(t, []shape{
		{"named twice", "if 1 2; if 3 2; ret; ret", told{"1 2; 3 2; -; -", "-; 0; 0 1; 1", "yyyy", "0 1 2 3", ""}},
		{"a long way round", "if 1 3; goto 2; goto 3; ret", told{"1 3; 2; 3; -", "-; 0; 1; 0 2", "yyyy", "0 1 2 3", ""}},
		{"a way that was left", "if 1 4; if 2 3; ret; goto 4; goto 2", told{"1 4; 2 3; -; 4; 2", "-; 0; 1 4; 1; 0 3", "yyyyy", "0 1 3 4 2", ""}},
		{"a loop ahead of the second one", "if 1 3; goto 2; if 1 0; goto 1", told{"1 3; 2; 1 0; 1", "2; 0 2 3; 1; 0", "yyyy", "0 3 1 2", "[2 0] [2 1]"}},
		{"of the stage", "goto 1; if 2 4; if 3 1; goto 1; ret; goto 9", told{"1; 2 4; 3 1; 1; -; -", "-; 0 2 3; 1; 2; 1; -", "yyyyyn", "0 1 4 2 3", "[2 1] [3 1]"}},
	})
}

// TestBackInOrder: by the numbers of the first ones, and of the second ones,
// not by where they stand in the order or in To.
func TestBackInOrder(t *testing.T) {
	wantShapes(t, []shape{
		{"seconds named falling", "goto 1; goto 2; if 2 1", told{"1; 2; 2 1", "-; 0 2; 1 2", "yyy", "0 1 2", "[2 1] [2 2]"}},
		{"seconds that stand falling", "goto 3; if 1 3; goto 1; goto 2", told{"3; 1 3; 1; 2", "-; 1 2; 3; 0 1", "yyyy", "0 3 2 1", "[1 1] [1 3]"}},
		{"firsts that stand falling", "goto 3; if 0 3; if 1 2; goto 2", told{"3; 0 3; 1 2; 2", "1; 2; 2 3; 0 1", "yyyy", "0 3 2 1", "[1 0] [1 3] [2 2]"}},
		{"some of one that isn't reached", "if 0 3; if 1 0; if 2 1; if 3 0", told{"0 3; 1 0; 2 1; 3 0", "0 1 3; 1 2; 2; 0 3", "ynny", "0 3", "[0 0] [3 0] [3 3]"}},
	})
}

func TestNextOfPlacesBeside(t *testing.T) {
	f := fun(t, "goto 1; if 0 1; goto 0; goto 1")
	for _, block := range []int{-1, -2, -3, -4, 4, 5, 8, 1 << 32, 1<<32 + 1, math.MaxInt, math.MinInt, math.MinInt + 1} {
		if next := flow.Next(f, block); len(next) != 0 {
			t.Errorf("Next(%d) = %v", block, next)
		}
		if next := flow.Next(api.Fun{}, block); len(next) != 0 {
			t.Errorf("of none Next(%d) = %v", block, next)
		}
	}
	if next := flow.Next(api.Fun{}, 0); len(next) != 0 {
		t.Error(next)
	}
	if next := flow.Next(f, 3); !slices.Equal(next, []int{1}) {
		t.Error(next)
	}
}

// TestRoomBehindIsNoBlock: what stands in a row's spare room plays no part.
func TestRoomBehindIsNoBlock(t *testing.T) {
	f := fun(t, "if 1 2; goto 2; goto 0")
	f.Blocks[2].List = []int{0, 1, 2}
	f.Blocks[0].List = []int{1, 2}[:1]
	f.Ins = make([]api.Ins, 3)[:2]
	f.Blocks = f.Blocks[:2]
	if got, want := tell(f), (told{"1; -", "-; 0", "yy", "0 1", ""}); got != want {
		t.Errorf("%+v, want %+v", got, want)
	}
	if next := flow.Next(f, 2); len(next) != 0 {
		t.Error(next)
	}
	wantWhere(t, f, -1, 0)
}

func wantWhere(t *testing.T, f api.Fun, want ...int) {
	t.Helper()
	if where := flow.Where(f); !slices.Equal(where, want) {
		t.Errorf("Where = %v, want %v", where, want)
	}
}

// lists is a function with so many instructions, and blocks with those Lists.
func lists(count int, rows ...[]int) api.Fun {
	f := api.Fun{Ins: make([]api.Ins, count)}
	for _, row := range rows {
		f.Blocks = append(f.Blocks, api.Block{List: row, Jump: api.Ret, Arg: -1})
	}
	return f
}

func TestWhere(t *testing.T) {
	wantWhere(t, lists(0))
	wantWhere(t, lists(0, nil, nil))
	wantWhere(t, lists(1), -1)
	wantWhere(t, lists(3), -1, -1, -1)
	wantWhere(t, lists(3, nil, []int{}), -1, -1, -1)
	wantWhere(t, lists(1, []int{0}), 0)
	wantWhere(t, lists(3, []int{0, 1, 2}), 0, 0, 0)
	wantWhere(t, lists(4, []int{3, 0}, []int{2}), 0, -1, 1, 0)
	wantWhere(t, lists(4, []int{2}, nil, []int{1, 0}, []int{3}), 2, 2, 0, 3)
}

func TestWhereOfSeveral(t *testing.T) {
	wantWhere(t, lists(2, nil, []int{0}, []int{0, 1}, []int{1}), 1, 2)
	wantWhere(t, lists(2, []int{1}, []int{0}, []int{1, 0}), 1, 0)
	// The block counts, not how far ahead it stands in a List.
	wantWhere(t, lists(3, []int{1, 2, 0}, []int{0, 1, 2}), 0, 0, 0)
	// One List has it twice.
	wantWhere(t, lists(2, nil, []int{0, 0}, []int{1, 0, 1}), 1, 2)
	wantWhere(t, lists(1, []int{0, 0, 0}, []int{0, 0}), 0)
}

func TestWhereOfPlacesBeside(t *testing.T) {
	beside := []int{-1, -2, 2, 3, 1 << 32, math.MaxInt, math.MinInt}
	wantWhere(t, lists(2, beside, []int{-1, 1, 2}, beside), -1, 1)
	wantWhere(t, lists(2, append(beside, 0)), 0, -1)
	wantWhere(t, lists(0, beside, []int{0}))
	wantWhere(t, lists(1, []int{1}, []int{-1}), -1)
}

// TestWhereOfAllBlocks: it makes no difference how a block ends, whether it is
// reached, and what the instructions are.
func TestWhereOfAllBlocks(t *testing.T) {
	f := fun(t, "goto 2; goto 2; ret; jump 9; if 4 0")
	f.Ins = []api.Ins{{Op: api.Phi, Args: []int{3}}, {}, {Op: -1, N: 7}, {Op: api.Print, Args: []int{1}}, {Op: api.Call}}
	for block := range f.Blocks {
		f.Blocks[block].List = []int{4 - block}
	}
	wantWhere(t, f, 4, 3, 2, 1, 0)
}

// TestWaysAreOfEndsAlone: what instructions and Lists are there, and what Arg
// is, makes no difference to who leads where.
func TestWaysAreOfEndsAlone(t *testing.T) {
	text := "goto 1; if 2 4; if 3 1; goto 1; ret; goto 4"
	want := tell(fun(t, text))
	for _, arg := range []int{-1, 0, 1, 4, 9, math.MaxInt, math.MinInt} {
		f := fun(t, text)
		f.Name, f.Params, f.Result, f.Slots = "f", []string{"int"}, "bool", []string{"*T"}
		f.Ins = []api.Ins{{Op: api.Flag, N: arg}, {Op: api.Phi, Args: []int{arg, 5}}}
		for block := range f.Blocks {
			f.Blocks[block].Arg = arg
			f.Blocks[block].List = []int{arg, 1, 5}
		}
		if got := tell(f); got != want {
			t.Errorf("with %d: %+v, want %+v", arg, got, want)
		}
	}
}

// chain leads from each block to the next one, and from the last one to none;
// it may lead to the block 0 as well.
func chain(count int, isLoop bool) api.Fun {
	f := api.Fun{Blocks: make([]api.Block, count)}
	for block := range f.Blocks {
		f.Blocks[block] = api.Block{Jump: api.Goto, Arg: -1, To: [2]int{block + 1, 0}}
		if isLoop {
			f.Blocks[block].Jump = api.If
		}
	}
	return f
}

// TestLongWays has ways so long that they can't be calls within one another
// on the stack that is left here.
func TestLongWays(t *testing.T) {
	defer debug.SetMaxStack(debug.SetMaxStack(16 << 20))
	for _, count := range []int{api.MaxBlocks, 1 << 20} {
		wantLong(t, chain(count, false))
		wantLong(t, chain(count, true))
	}
}

func wantLong(t *testing.T, f api.Fun) {
	t.Helper()
	order, ahead, reached, back := flow.Order(f), flow.Ahead(f), flow.Reached(f), flow.Back(f)
	isLoop := f.Blocks[0].Jump == api.If
	wantBack := 0
	if isLoop {
		wantBack = len(f.Blocks)
	}
	if len(order) != len(f.Blocks) || len(ahead) != len(f.Blocks) || len(reached) != len(f.Blocks) || len(back) != wantBack {
		t.Fatal(len(order), len(ahead), len(reached), len(back))
	}
	for block := range f.Blocks {
		isAhead := block == 0 || slices.Equal(ahead[block], []int{block - 1})
		if order[block] != block || !isAhead || !reached[block] {
			t.Fatal(block, order[block], ahead[block], reached[block])
		}
		if isLoop && back[block] != [2]int{block, 0} {
			t.Fatal(back[block])
		}
	}
}

// TestManyAhead: all blocks lead to the last one, and each to the next one.
func TestManyAhead(t *testing.T) {
	f := api.Fun{Blocks: make([]api.Block, api.MaxBlocks)}
	last := len(f.Blocks) - 1
	for block := range f.Blocks {
		f.Blocks[block] = api.Block{Jump: api.If, To: [2]int{last, block + 1}}
	}
	ahead, back := flow.Ahead(f)[last], flow.Back(f)
	if len(ahead) != len(f.Blocks) || !slices.IsSorted(ahead) || ahead[last] != last || ahead[0] != 0 {
		t.Error(len(ahead))
	}
	if len(back) != 1 || back[0] != [2]int{last, last} {
		t.Error(back)
	}
	order := flow.Order(f)
	if !slices.IsSorted(order) || len(order) != len(f.Blocks) {
		t.Error(order)
	}
}

// TestManyInstructions has as many as may be, in Lists of all lengths.
func TestManyInstructions(t *testing.T) {
	f := api.Fun{Ins: make([]api.Ins, api.MaxIns), Blocks: make([]api.Block, api.MaxBlocks)}
	want := make([]int, api.MaxIns)
	for place := range f.Ins {
		want[place] = (place * place) % len(f.Blocks)
		for _, block := range []int{want[place], len(f.Blocks) - 1} {
			f.Blocks[block].List = append(f.Blocks[block].List, place)
		}
	}
	wantWhere(t, f, want...)
}
