package ir_test

import (
	"math"
	"slices"
	"strconv"
	"strings"
	"testing"

	"truant/api"
	"truant/ir"
)

// told is an instruction, and its line where it stands at the place 7.
type told struct {
	ins  api.Ins
	line string
}

func usualIns() []told {
	return []told{
		{api.Ins{Op: 1, Type: "int", Args: []int{0, 1}}, "v7 = add int 0 v0 v1"},
		{api.Ins{Op: 2, Type: "int", Args: []int{1, 0}}, "v7 = sub int 0 v1 v0"},
		{api.Ins{Op: 3, Type: "int", Args: []int{6, 6}}, "v7 = mul int 0 v6 v6"},
		{api.Ins{Op: 4, Type: "int", Args: []int{2, 3}}, "v7 = quo int 0 v2 v3"},
		{api.Ins{Op: 5, Type: "int", Args: []int{10, 11}}, "v7 = rem int 0 v10 v11"},
		{api.Ins{Op: 6, Type: "int", Args: []int{0, 1}}, "v7 = and int 0 v0 v1"},
		{api.Ins{Op: 7, Type: "int", Args: []int{0, 1}}, "v7 = or int 0 v0 v1"},
		{api.Ins{Op: 8, Type: "int", Args: []int{0, 1}}, "v7 = xor int 0 v0 v1"},
		{api.Ins{Op: 9, Type: "int", Args: []int{0, 1}}, "v7 = shl int 0 v0 v1"},
		{api.Ins{Op: 10, Type: "int", Args: []int{0, 1}}, "v7 = shr int 0 v0 v1"},
		{api.Ins{Op: 11, Type: "bool", Args: []int{0, 1}}, "v7 = eq bool 0 v0 v1"},
		{api.Ins{Op: 12, Type: "bool", Args: []int{0, 1}}, "v7 = ne bool 0 v0 v1"},
		{api.Ins{Op: 13, Type: "bool", Args: []int{0, 1}}, "v7 = lt bool 0 v0 v1"},
		{api.Ins{Op: 14, Type: "bool", Args: []int{0, 1}}, "v7 = le bool 0 v0 v1"},
		{api.Ins{Op: 15, Type: "bool", Args: []int{0, 1}}, "v7 = gt bool 0 v0 v1"},
		{api.Ins{Op: 16, Type: "bool", Args: []int{0, 1}}, "v7 = ge bool 0 v0 v1"},
		{api.Ins{Op: 17, Type: "int", Args: []int{5}}, "v7 = neg int 0 v5"},
		{api.Ins{Op: 18, Type: "bool", Args: []int{5}}, "v7 = not bool 0 v5"},
		{api.Ins{Op: 20, Type: "*Node", N: 3}, "v7 = param *Node 3"},
		{api.Ins{Op: 21, Type: "int", N: -12}, "v7 = const int -12"},
		{api.Ins{Op: 22, Type: "bool", N: 1}, "v7 = flag bool 1"},
		{api.Ins{Op: 23, Type: "*T"}, "v7 = nil *T 0"},
		{api.Ins{Op: 24, Type: "*T", N: 1, Name: "T"}, "v7 = new *T T 1"},
		{api.Ins{Op: 25, Type: "*T", N: 2, Args: []int{4}}, "v7 = load *T 2 v4"},
		{api.Ins{Op: 26, N: 2, Args: []int{4, 3}}, "v7 = store 2 v4 v3"},
		{api.Ins{Op: 27, Type: "int", N: 16383}, "v7 = get int 16383"},
		{api.Ins{Op: 28, N: 5, Args: []int{6}}, "v7 = put 5 v6"},
		{api.Ins{Op: 29, Type: "bool", N: 11}, "v7 = gload bool 11"},
		{api.Ins{Op: 30, N: 1, Args: []int{0}}, "v7 = gstore 1 v0"},
		{api.Ins{Op: 31, N: 2}, "v7 = call 2"},
		{api.Ins{Op: 31, Type: "int", N: 23, Args: []int{1, 2, 3, 2, 1, 0}}, "v7 = call int 23 v1 v2 v3 v2 v1 v0"},
		{api.Ins{Op: 32, Args: []int{0}}, "v7 = print 0 v0"},
		{api.Ins{Op: 33, Type: "int"}, "v7 = read int 0"},
		{api.Ins{Op: 34, Type: "*T", Args: []int{9, 7, 9}}, "v7 = phi *T 0 v9 v7 v9"},
	}
}

// oddIns are such as nobody would make.
func oddIns() []told {
	const least, greatest = "-9223372036854775808", "9223372036854775807"
	return []told{
		{api.Ins{Op: api.Add}, "v7 = add 0"},
		{api.Ins{Op: api.Add, Args: []int{}}, "v7 = add 0"},
		{api.Ins{Op: api.Add, Name: "x"}, "v7 = add x 0"},
		{api.Ins{Op: api.Add, Type: "int"}, "v7 = add int 0"},
		{api.Ins{Op: api.Add, Type: "int", Name: "x", N: -1, Args: []int{-1, -2, 0}}, "v7 = add int x -1 v-1 v-2 v0"},
		{api.Ins{Op: api.New, Args: []int{7}}, "v7 = new 0 v7"},
		{api.Ins{Op: api.Store, Type: "a b", Name: " ", N: 1}, "v7 = store a b   1"},
		{api.Ins{Op: api.Read, Type: "\n", Name: "\x00é", Args: []int{1}}, "v7 = read \n \x00é 0 v1"},
		{api.Ins{Op: api.Const, N: math.MinInt, Args: []int{math.MinInt}}, "v7 = const " + least + " v" + least},
		{api.Ins{Op: api.Phi, N: math.MaxInt, Args: []int{math.MaxInt}}, "v7 = phi " + greatest + " v" + greatest},
		{api.Ins{Op: 19, Type: "int", Name: "x", N: 1, Args: []int{1}}, ""},
		{api.Ins{Op: 0, Type: "int"}, ""},
		{api.Ins{Op: 35, Type: "int"}, ""},
		{api.Ins{Op: -1, Type: "int"}, ""},
		{api.Ins{Op: math.MaxInt, Name: "x"}, ""},
		{api.Ins{Op: math.MinInt, Args: []int{2}}, ""},
	}
}

// at7 is a function with that instruction at the place 7, and with others.
func at7(ins api.Ins) api.Fun {
	list := make([]api.Ins, 9)
	for at := range list {
		list[at] = api.Ins{Op: api.Xor, Type: "other", N: 9 * at, Name: "other", Args: []int{at}}
	}
	list[7] = ins
	return api.Fun{Ins: list}
}

func wantLine(t *testing.T, f api.Fun, place int, want string) {
	t.Helper()
	if line := ir.Line(f, place); line != want {
		t.Errorf("Line(%d) = %q, want %q", place, line, want)
	}
}

func TestLineOfEachOp(t *testing.T) {
	lines := map[string]int{}
	for _, c := range slices.Concat(usualIns(), oddIns()) {
		wantLine(t, at7(c.ins), 7, c.line)
		parts := strings.Fields(c.line)
		if len(parts) > 2 {
			lines[parts[2]]++
		}
	}
	for _, row := range opRows(t) {
		if lines[row.word] == 0 {
			t.Errorf("no line of %s", row.word)
		}
	}
}

// TestLineOfEachForm asks each op with and without all that a line may have.
func TestLineOfEachForm(t *testing.T) {
	for _, row := range opRows(t) {
		ins := api.Ins{Op: row.op}
		head := "v7 = " + row.word
		wantLine(t, at7(ins), 7, head+" 0")
		ins.Name = "N"
		wantLine(t, at7(ins), 7, head+" N 0")
		ins.Type = "*N"
		wantLine(t, at7(ins), 7, head+" *N N 0")
		ins.Args = []int{8, -1, 8}
		wantLine(t, at7(ins), 7, head+" *N N 0 v8 v-1 v8")
		ins.Name, ins.N = "", -40
		wantLine(t, at7(ins), 7, head+" *N -40 v8 v-1 v8")
		ins.Type = ""
		wantLine(t, at7(ins), 7, head+" -40 v8 v-1 v8")
	}
}

func TestLineOfNoOps(t *testing.T) {
	for _, op := range noOps() {
		wantLine(t, at7(api.Ins{Op: op, Type: "int", Args: []int{0, 1}}), 7, "")
	}
}

func TestLineOfEachPlace(t *testing.T) {
	f := api.Fun{Ins: []api.Ins{{Op: api.Read, Type: "int"}, {Op: api.Print, Args: []int{0}}, {Op: api.Nil, Type: "*T"}}}
	wantLine(t, f, 0, "v0 = read int 0")
	wantLine(t, f, 1, "v1 = print 0 v0")
	wantLine(t, f, 2, "v2 = nil *T 0")
	for _, place := range []int{3, 4, -1, -2, -3, 1 << 32, math.MaxInt, math.MinInt} {
		wantLine(t, f, place, "")
		wantLine(t, api.Fun{}, place, "")
	}
	wantLine(t, api.Fun{}, 0, "")
	// Room behind a row is none of its places.
	f.Ins = f.Ins[:2]
	wantLine(t, f, 2, "")
}

// wantLines has one line a line, without the first and the last.
func wantLines(t *testing.T, p api.Prog, want string) {
	t.Helper()
	rows := strings.Split(strings.TrimSuffix(strings.TrimPrefix(want, "\n"), "\n"), "\n")
	if want == "" {
		rows = nil
	}
	if lines := ir.Lines(p); !slices.Equal(lines, rows) {
		t.Errorf("Lines are\n%q, want\n%q", lines, rows)
	}
}

// listProg makes a list as long as it reads, and prints what is in it.
func listProg() api.Prog {
	return api.Prog{
		Structs: []api.Struct{
			{Name: "Cell", Fields: []api.Field{{Name: "n", Type: "int"}, {Name: "next", Type: "*Cell"}, {Name: "is", Type: "bool"}}},
			{Name: "Empty"},
			{Name: "Box", Fields: []api.Field{{Name: "cell", Type: "*Cell"}}},
		},
		Globals: []api.Field{{Name: "top", Type: "*Box"}, {Name: "count", Type: "int"}},
		Funs: []api.Fun{
			{
				Name: "push", Params: []string{"*Cell", "int"}, Result: "*Cell",
				Ins: []api.Ins{
					{Op: api.Param, Type: "*Cell"}, {Op: api.Param, Type: "int", N: 1},
					{Op: api.New, Type: "*Cell", Name: "Cell"},
					{Op: api.Store, Args: []int{2, 1}}, {Op: api.Store, N: 1, Args: []int{2, 0}},
				},
				Blocks: []api.Block{{List: []int{0, 1, 2, 3, 4}, Jump: api.Ret, Arg: 2}},
			},
			mainFun(),
		},
	}
}

func mainFun() api.Fun {
	return api.Fun{
		Name: "main", Slots: []string{"*Cell", "int"},
		Ins: []api.Ins{
			{Op: api.Read, Type: "int"}, {Op: api.Put, N: 1, Args: []int{0}},
			{Op: api.Get, Type: "int", N: 1}, {Op: api.Const, Type: "int"}, {Op: api.Gt, Type: "bool", Args: []int{2, 3}},
			{Op: api.Get, Type: "*Cell"}, {Op: api.Call, Type: "*Cell", Args: []int{5, 2}}, {Op: api.Put, Args: []int{6}},
			{Op: api.Const, Type: "int", N: 1}, {Op: api.Sub, Type: "int", Args: []int{2, 8}}, {Op: api.Put, N: 1, Args: []int{9}},
			{Op: api.GLoad, Type: "int", N: 1}, {Op: api.Print, Args: []int{11}},
		},
		Blocks: []api.Block{
			{List: []int{0, 1}, Jump: api.Goto, Arg: -1, To: [2]int{1, 0}},
			{List: []int{2, 3, 4}, Jump: api.If, Arg: 4, To: [2]int{2, 3}},
			{List: []int{5, 6, 7, 8, 9, 10}, Jump: api.Goto, Arg: -1, To: [2]int{1, 0}},
			{List: []int{11, 12}, Jump: api.Ret, Arg: -1},
		},
	}
}

func TestLinesOfAProgram(t *testing.T) {
	wantLines(t, listProg(), `
struct Cell n:int next:*Cell is:bool
struct Empty
struct Box cell:*Cell
global top *Box
global count int
func push *Cell int -> *Cell
block 0
v0 = param *Cell 0
v1 = param int 1
v2 = new *Cell Cell 0
v3 = store 0 v2 v1
v4 = store 1 v2 v0
ret v2
func main ->
slots *Cell int
block 0
v0 = read int 0
v1 = put 1 v0
goto 1
block 1
v2 = get int 1
v3 = const int 0
v4 = gt bool 0 v2 v3
if v4 2 3
block 2
v5 = get *Cell 0
v6 = call *Cell 0 v5 v2
v7 = put 0 v6
v8 = const int 1
v9 = sub int 0 v2 v8
v10 = put 1 v9
goto 1
block 3
v11 = gload int 1
v12 = print 0 v11
ret
`)
}

func TestLinesOfParts(t *testing.T) {
	wantLines(t, api.Prog{}, "")
	wantLines(t, api.Prog{Structs: []api.Struct{}, Globals: []api.Field{}, Funs: []api.Fun{}}, "")
	wantLines(t, api.Prog{Structs: []api.Struct{{Name: "T"}, {Name: "U", Fields: []api.Field{}}}}, "struct T\nstruct U")
	wantLines(t, api.Prog{Globals: []api.Field{{Name: "g", Type: "int"}}}, "global g int")
	wantLines(t, api.Prog{Funs: []api.Fun{{Name: "f"}}}, "func f ->")
	wantLines(t, api.Prog{Funs: []api.Fun{{Name: "f", Result: "int"}}}, "func f -> int")
	wantLines(t, api.Prog{Funs: []api.Fun{{Name: "f", Params: []string{"bool"}}}}, "func f bool ->")
	wantLines(t, api.Prog{Funs: []api.Fun{{Name: "f", Slots: []string{"*T"}}}}, "func f ->\nslots *T")
	wantLines(t, api.Prog{Funs: []api.Fun{{Name: "f", Params: []string{}, Slots: []string{}, Ins: []api.Ins{}, Blocks: []api.Block{}}}}, "func f ->")
	// What no List has is not told.
	wantLines(t, api.Prog{Funs: []api.Fun{{Name: "f", Ins: []api.Ins{{Op: api.Read}}}}}, "func f ->")
	wantLines(t, api.Prog{Funs: []api.Fun{{Name: "f", Ins: []api.Ins{{Op: api.Read}}, Blocks: lists(nil)}}}, "func f ->\nblock 0\nret")
	// All structs are ahead of all globals, and these of all functions.
	wantLines(t, api.Prog{
		Structs: []api.Struct{{Name: "a"}, {Name: "b"}},
		Globals: []api.Field{{Name: "c", Type: "d"}, {Name: "e", Type: "f"}},
		Funs:    []api.Fun{{Name: "h", Result: "i"}, {Name: "j", Slots: []string{"k", "l"}}},
	}, "struct a\nstruct b\nglobal c d\nglobal e f\nfunc h -> i\nfunc j ->\nslots k l")
}

func TestLinesOfLists(t *testing.T) {
	f := api.Fun{Name: "f", Ins: []api.Ins{{Op: api.Read, Type: "int"}, {Op: 19}, {Op: api.Print, Args: []int{0}}}}
	// In the List's order, as often as they stand there; one that has no
	// text has a line without any.
	f.Blocks = lists([]int{2, 0, 2}, []int{0}, []int{1, 3, -1, 2, math.MaxInt, math.MinInt})
	wantLines(t, api.Prog{Funs: []api.Fun{f}}, `
func f ->
block 0
v2 = print 0 v0
v0 = read int 0
v2 = print 0 v0
ret
block 1
v0 = read int 0
ret
block 2



v2 = print 0 v0


ret
`)
}

func TestLinesOfEnds(t *testing.T) {
	least, greatest := math.MinInt, math.MaxInt
	cases := []struct {
		end  api.Block
		want string
	}{
		{api.Block{Jump: api.Goto}, "goto 0"},
		{api.Block{Jump: api.Goto, Arg: -1, To: [2]int{12, 0}}, "goto 12"},
		{api.Block{Jump: api.Goto, Arg: 5, To: [2]int{3, 4}}, "goto 3"},
		{api.Block{Jump: api.Goto, To: [2]int{-7, 1}}, "goto -7"},
		{api.Block{Jump: api.If}, "if v0 0 0"},
		{api.Block{Jump: api.If, Arg: 9, To: [2]int{1, 2}}, "if v9 1 2"},
		{api.Block{Jump: api.If, Arg: 9, To: [2]int{2, 1}}, "if v9 2 1"},
		{api.Block{Jump: api.If, Arg: -1, To: [2]int{-1, 4096}}, "if v-1 -1 4096"},
		{api.Block{Jump: api.If, Arg: least, To: [2]int{least, greatest}}, "if v-9223372036854775808 -9223372036854775808 9223372036854775807"},
		{api.Block{Jump: api.Ret, Arg: -1}, "ret"},
		{api.Block{Jump: api.Ret, Arg: -1, To: [2]int{1, 2}}, "ret"},
		{api.Block{Jump: api.Ret, Arg: 0}, "ret v0"},
		{api.Block{Jump: api.Ret, Arg: 77, To: [2]int{1, 2}}, "ret v77"},
		{api.Block{Jump: api.Ret, Arg: -2}, "ret v-2"},
		{api.Block{Jump: api.Ret, Arg: greatest}, "ret v9223372036854775807"},
		{api.Block{}, "jump 0"},
		{api.Block{Arg: 4, To: [2]int{1, 2}}, "jump 0"},
		{api.Block{Jump: 4, Arg: -1}, "jump 4"},
		{api.Block{Jump: -1, Arg: -1}, "jump -1"},
		{api.Block{Jump: greatest}, "jump 9223372036854775807"},
		{api.Block{Jump: least}, "jump -9223372036854775808"},
	}
	for _, c := range cases {
		wantLines(t, api.Prog{Funs: []api.Fun{{Name: "f", Blocks: []api.Block{c.end}}}}, "func f ->\nblock 0\n"+c.want)
	}
	// All in one function, so that each block has its own place.
	f, want := api.Fun{Name: "f"}, "func f ->"
	for at, c := range cases[:12] {
		f.Blocks = append(f.Blocks, c.end)
		want += "\nblock " + strconv.Itoa(at) + "\n" + c.want
	}
	wantLines(t, api.Prog{Funs: []api.Fun{f}}, want)
}

// TestLinesOfOddTexts: a text is told as it is; one that isn't there stands
// between its blanks, but for those that are told only if they are there.
func TestLinesOfOddTexts(t *testing.T) {
	p := api.Prog{
		Structs: []api.Struct{
			{},
			{Fields: []api.Field{{}, {Name: "a"}, {Type: "int"}}},
			{Name: "a b", Fields: []api.Field{{Name: " ", Type: "x:y"}, {Name: ":", Type: "\t"}}},
		},
		Globals: []api.Field{{}, {Name: "g"}, {Type: "int"}, {Name: "a b", Type: " c"}},
		Funs:    []api.Fun{{}, {Name: "f", Params: []string{"", "a b", ""}, Result: " ", Slots: []string{"", " ", "x"}}},
	}
	want := []string{
		"struct ", "struct  : a: :int", "struct a b  :x:y ::\t",
		"global  ", "global g ", "global  int", "global a b  c",
		"func  ->", "func f  a b  ->  ", "slots    x",
	}
	if lines := ir.Lines(p); !slices.Equal(lines, want) {
		t.Errorf("%q, want %q", lines, want)
	}
}

func TestAnswersAreNew(t *testing.T) {
	p := listProg()
	lines, uses := ir.Lines(p), ir.Uses(p.Funs[1], 2)
	wantLinesToo, wantUsesToo := slices.Clone(lines), slices.Clone(uses)
	clear(lines)
	clear(uses)
	if !slices.Equal(ir.Lines(p), wantLinesToo) || !slices.Equal(ir.Uses(p.Funs[1], 2), wantUsesToo) {
		t.Error("an answer hangs on one ahead of it")
	}
	if len(wantUsesToo) != 3 {
		t.Error(wantUsesToo)
	}
}
