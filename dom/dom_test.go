package dom_test

import (
	"fmt"
	"math"
	"runtime/debug"
	"slices"
	"strconv"
	"strings"
	"testing"

	"truant/api"
	"truant/dom"
)

const (
	least    = "-9223372036854775808"
	greatest = "9223372036854775807"
)

// fun reads blocks, with a semicolon between each two: goto, if, ret, or jump
// and its number; then what stands in To, as far as it is told.
func fun(t *testing.T, text string) api.Fun {
	t.Helper()
	var f api.Fun
	for _, part := range strings.Split(text, ";") {
		words := strings.Fields(part)
		if len(words) == 0 {
			continue
		}
		b := api.Block{Jump: map[string]int{"goto": api.Goto, "if": api.If, "ret": api.Ret}[words[0]]}
		rest := numbers(t, words[1:])
		if words[0] == "jump" {
			b.Jump, rest = rest[0], rest[1:]
		}
		copy(b.To[:], rest)
		f.Blocks = append(f.Blocks, b)
	}
	return f
}

func numbers(t *testing.T, words []string) []int {
	t.Helper()
	var list []int
	for _, word := range words {
		n, wrong := strconv.Atoi(word)
		if wrong != nil {
			t.Fatal(wrong)
		}
		list = append(list, n)
	}
	return list
}

// row tells a row; - is one without elements.
func row(list []int) string {
	if len(list) == 0 {
		return "-"
	}
	return strings.Trim(fmt.Sprint(list), "[]")
}

// rows tells each row, with a semicolon between each two.
func rows(list [][]int) string {
	var texts []string
	for _, r := range list {
		texts = append(texts, row(r))
	}
	return strings.Join(texts, "; ")
}

// told is what is answered of a function, as text.
type told struct {
	nearest, front, under string
}

func tell(f api.Fun) told {
	return told{row(dom.Nearest(f)), rows(dom.Front(f)), rows(dom.Under(f))}
}

// shape is a function's blocks, and what is answered of them.
type shape struct {
	name   string
	blocks string
	want   told
}

func wantShapes(t *testing.T, shapes []shape) {
	t.Helper()
	for _, s := range shapes {
		f := fun(t, s.blocks)
		if got := tell(f); got != s.want {
			t.Errorf("%s (%s):\n%+v, want\n%+v", s.name, s.blocks, got, s.want)
		}
		wantIsByNearest(t, f)
	}
}

// wantIsByNearest asks Is of each two, and of some beside, against the ways up
// that Nearest tells.
func wantIsByNearest(t *testing.T, f api.Fun) {
	t.Helper()
	nearest := dom.Nearest(f)
	for b := -2; b < len(f.Blocks)+2; b++ {
		var above []int
		if b == 0 && len(nearest) > 0 || b > 0 && b < len(nearest) && nearest[b] != -1 {
			above = []int{b}
			for at := nearest[b]; at != -1; at = nearest[at] {
				above = append(above, at)
			}
		}
		for a := -2; a < len(f.Blocks)+2; a++ {
			if got, want := dom.Is(f, a, b), slices.Contains(above, a); got != want {
				t.Errorf("%v: Is(%d, %d) = %v", f.Blocks, a, b, got)
			}
		}
	}
}

func TestShapesWithoutLoops(t *testing.T) {
	wantShapes(t, []shape{
		{"none", "", told{"-", "", ""}},
		{"one", "ret", told{"-1", "-", "-"}},
		{"chain", "goto 1; goto 2; goto 3; ret", told{"-1 0 1 2", "-; -; -; -", "1; 2; 3; -"}},
		{"chain from its end", "goto 3; ret; goto 1; goto 2", told{"-1 2 3 0", "-; -; -; -", "3; -; 1; 2"}},
		{"fork that meets again", "if 1 2; goto 3; goto 3; ret", told{"-1 0 0 0", "-; 3; 3; -", "1 2 3; -; -; -"}},
		{"fork the other way round", "if 2 1; goto 3; goto 3; ret", told{"-1 0 0 0", "-; 3; 3; -", "1 2 3; -; -; -"}},
		{"fork that meets at a lower number", "if 3 2; ret; goto 1; goto 1", told{"-1 0 0 0", "-; -; 1; 1", "1 2 3; -; -; -"}},
		{"fork that doesn't meet", "if 1 2; ret; ret", told{"-1 0 0", "-; -; -", "1 2; -; -"}},
		{"half a fork", "if 1 2; goto 2; ret", told{"-1 0 0", "-; 2; -", "1 2; -; -"}},
		{"the other half", "if 2 1; goto 2; ret", told{"-1 0 0", "-; 2; -", "1 2; -; -"}},
		{"fork behind one", "goto 1; if 2 3; goto 4; goto 4; ret", told{"-1 0 1 1 1", "-; -; 4; 4; -", "1; 2 3 4; -; -; -"}},
		{"fork in a fork", "if 1 2; if 3 4; goto 5; goto 5; goto 5; ret", told{"-1 0 0 1 1 0", "-; 5; 5; 5; 5; -", "1 2 5; 3 4; -; -; -; -"}},
		{"fork in a fork that meets twice", "if 1 2; if 3 4; goto 6; goto 5; goto 5; goto 6; ret", told{"-1 0 0 1 1 1 0", "-; 6; 6; 5; 5; 6; -", "1 2 6; 3 4 5; -; -; -; -; -"}},
		{"one meets late", "if 1 2; goto 4; goto 3; goto 4; ret", told{"-1 0 0 2 0", "-; 4; 4; 4; -", "1 2 4; -; 3; -; -"}},
		{"out of the midst of both branches", "if 1 2; if 3 5; if 4 5; ret; ret; ret", told{"-1 0 0 1 2 0", "-; 5; 5; -; -; -", "1 2 5; 3; 4; -; -; -"}},
		{"fronts of two", "if 1 2; if 3 4; if 3 4; ret; ret", told{"-1 0 0 0 0", "-; 3 4; 3 4; -; -", "1 2 3 4; -; -; -; -"}},
	})
}

func TestShapesWithLoops(t *testing.T) {
	wantShapes(t, []shape{
		{"loop", "goto 1; if 2 3; goto 1; ret", told{"-1 0 1 1", "-; 1; 1; -", "1; 2 3; -; -"}},
		{"loop of one", "goto 1; if 1 2; ret", told{"-1 0 1", "-; 1; -", "1; 2; -"}},
		{"loop asked at its end", "goto 1; goto 2; if 1 3; ret", told{"-1 0 1 2", "-; 1; 1; -", "1; 2; 3; -"}},
		{"loop in a loop", "goto 1; if 2 5; if 3 4; goto 2; goto 1; ret", told{"-1 0 1 2 2 1", "-; 1; 1 2; 2; 1; -", "1; 2 5; 3 4; -; -; -"}},
		{"loop in a loop, with one end", "goto 1; goto 2; if 2 3; if 1 4; ret", told{"-1 0 1 2 3", "-; 1; 1 2; 1; -", "1; 2; 3; 4; -"}},
		{"three loops, ended out of the midst", "goto 1; goto 2; goto 3; if 1 4; if 2 5; if 3 6; ret", told{"-1 0 1 2 3 4 5", "-; 1; 1 2; 1 2 3; 2 3; 3; -", "1; 2; 3; 4; 5; 6; -"}},
		{"loop with a fork", "goto 1; if 2 6; if 3 4; goto 5; goto 5; goto 1; ret", told{"-1 0 1 2 2 2 1", "-; 1; 1; 5; 5; 1; -", "1; 2 6; 3 4 5; -; -; -; -"}},
		{"loop with two ways in", "if 1 2; goto 2; if 1 3; ret", told{"-1 0 0 2", "-; 2; 1; -", "1 2; -; 3; -"}},
		{"the same, come to elsewhere first", "if 2 1; goto 2; if 1 3; ret", told{"-1 0 0 2", "-; 2; 1; -", "1 2; -; 3; -"}},
		{"loop of three with two ways in", "if 1 2; goto 3; goto 1; if 2 4; ret", told{"-1 0 0 1 3", "-; 2; 1; 2; -", "1 2; 3; -; 4; -"}},
		{"two loops, one behind the other", "goto 1; if 1 2; if 2 3; ret", told{"-1 0 1 2", "-; 1; 2; -", "1; 2; 3; -"}},
		{"a loop without an end", "goto 1; goto 2; goto 1", told{"-1 0 1", "-; 1; 1", "1; 2; -"}},
		{"two that fall into one loop", "if 1 2; goto 3; goto 4; goto 4; goto 3", told{"-1 0 0 0 0", "-; 3; 4; 4; 3", "1 2 3 4; -; -; -; -"}},
	})
}

// TestShapesBackToTheFirst: the block 0 has no nearest one, however it's led
// to; and it's in its own front then.
func TestShapesBackToTheFirst(t *testing.T) {
	wantShapes(t, []shape{
		{"alone", "goto 0", told{"-1", "0", "-"}},
		{"or on", "if 0 1; ret", told{"-1 0", "0; -", "1; -"}},
		{"by one", "goto 1; goto 0", told{"-1 0", "0; 0", "1; -"}},
		{"by a chain", "goto 2; goto 0; goto 1", told{"-1 2 0", "0; 0; 0", "2; -; 1"}},
		{"by all", "if 1 2; if 0 3; if 0 3; goto 0", told{"-1 0 0 0", "0; 0 3; 0 3; 0", "1 2 3; -; -; -"}},
		{"by one branch", "if 1 2; goto 0; ret", told{"-1 0 0", "0; 0; -", "1 2; -; -"}},
		{"out of a loop", "goto 1; if 1 0", told{"-1 0", "0; 0 1", "1; -"}},
		{"by one that isn't reached alone", "goto 1; ret; goto 0", told{"-1 0 -1", "-; -; -", "1; -; -"}},
	})
}

func TestShapesNotReached(t *testing.T) {
	wantShapes(t, []shape{
		{"one", "ret; ret", told{"-1 -1", "-; -", "-; -"}},
		{"itself", "ret; goto 1", told{"-1 -1", "-; -", "-; -"}},
		{"one leads to one that is", "goto 2; goto 2; ret", told{"-1 -1 0", "-; -; -", "2; -; -"}},
		{"one leads into a branch", "if 1 2; goto 4; goto 4; if 1 2; ret", told{"-1 0 0 -1 0", "-; 4; 4; -; -", "1 2 4; -; -; -; -"}},
		{"one leads to the block 0", "ret; goto 0", told{"-1 -1", "-; -", "-; -"}},
		{"loop", "ret; goto 2; goto 1", told{"-1 -1 -1", "-; -; -", "-; -; -"}},
		{"fork that meets", "ret; if 2 3; goto 4; goto 4; ret", told{"-1 -1 -1 -1 -1", "-; -; -; -; -", "-; -; -; -; -"}},
		{"a loop, and one that is", "goto 3; goto 2; if 1 3; if 3 4; ret", told{"-1 -1 -1 0 3", "-; -; -; 3; -", "3; -; -; 4; -"}},
		{"in between", "goto 2; goto 3; goto 4; goto 1; ret", told{"-1 -1 0 -1 2", "-; -; -; -; -", "2; -; 4; -; -"}},
		{"of the stage", "goto 1; if 2 6; if 3 4; goto 5; goto 5; goto 1; ret; goto 5", told{"-1 0 1 2 2 2 1 -1", "-; 1; 1; 5; 5; 1; -; -", "1; 2 6; 3 4 5; -; -; -; -; -"}},
	})
}

func TestShapesOfEnds(t *testing.T) {
	wantShapes(t, []shape{
		{"an If with both the same", "if 1 1; ret", told{"-1 0", "-; -", "1; -"}},
		{"an If with both itself", "if 0 0", told{"-1", "0", "-"}},
		{"an If with both the same, in a loop", "goto 1; if 1 1", told{"-1 0", "-; 1", "1; -"}},
		{"an If with both the same, in a branch", "if 1 2; if 3 3; goto 3; ret", told{"-1 0 0 0", "-; 3; 3; -", "1 2 3; -; -; -"}},
		{"an If's first isn't there", "if 2 1; ret", told{"-1 0", "-; -", "1; -"}},
		{"an If's second isn't there", "if 1 -1; ret", told{"-1 0", "-; -", "1; -"}},
		{"an If's aren't there", "if 2 3; ret", told{"-1 -1", "-; -", "-; -"}},
		{"an If's are the ends", "if " + least + " " + greatest + "; if " + greatest + " 0", told{"-1 -1", "-; -", "-; -"}},
		{"a Goto one behind the last", "goto 2; goto 0", told{"-1 -1", "-; -", "-; -"}},
		{"a Goto to the ends", "goto " + greatest + "; goto " + least, told{"-1 -1", "-; -", "-; -"}},
		{"a Goto whose To[1] names a block", "goto 1 2; ret; ret", told{"-1 0 -1", "-; -; -", "1; -; -"}},
		{"a Ret whose To name blocks", "ret 1 2; ret; ret", told{"-1 -1 -1", "-; -; -", "-; -; -"}},
		{"a Ret that names itself", "goto 1; ret 1 0", told{"-1 0", "-; -", "1; -"}},
		{"a Jump 0", "jump 0 1 2; ret; ret", told{"-1 -1 -1", "-; -; -", "-; -; -"}},
		{"a Jump 4", "jump 4 1 2; ret; ret", told{"-1 -1 -1", "-; -; -", "-; -; -"}},
		{"a Jump below 0", "if 1 2; jump -1 2 1; ret", told{"-1 0 0", "-; -; -", "1 2; -; -"}},
		{"Jumps at the ends", "if 1 2; jump " + least + " 2 0; jump " + greatest + " 1 0", told{"-1 0 0", "-; -; -", "1 2; -; -"}},
		{"a Jump of other bits", "jump 4294967297 1 0; jump 258 0 1", told{"-1 -1", "-; -", "-; -"}},
		{"Tos of other bits", "if 4294967297 1; goto 4294967296", told{"-1 0", "-; -", "1; -"}},
	})
}

// TestShapesThatAreIntricate has such where the nearest one is far up, or is
// found only when that of another one is.
func TestShapesThatAreIntricate(t *testing.T) {
	wantShapes(t, []shape{
		// That of Lengauer and Tarjan: 0 is their R, 1 to 12 are A to L, and 13
		// and 14 are there since a block leads to two at most.
		{"of thirteen and two", "if 3 13; goto 4; if 4 14; if 6 7; goto 12; goto 8; goto 9; if 9 10; if 5 11; goto 11; goto 9; if 0 9; goto 8; if 2 1; if 1 5",
			told{"-1 13 13 0 13 13 3 3 13 0 7 0 4 0 2", "0; 4; 1 4 5; 9; 8; 8; 9; 9; 5 11; 11; 9; 0 9; 8; 11; 1 5", "3 9 11 13; -; 14; 6 7; 12; -; -; 10; -; -; -; -; -; 1 2 4 5 8; -"}},
		{"a ladder", "if 1 2; if 2 3; if 1 4; if 4 5; if 3 6; goto 6; ret", told{"-1 0 0 0 0 3 0", "-; 2 3; 1 4; 4 6; 3 6; 6; -", "1 2 3 4 6; -; -; 5; -; -; -"}},
		{"one way in below another one", "goto 1; if 2 3; if 4 5; goto 5; goto 6; goto 6; if 3 7; ret", told{"-1 0 1 1 2 1 1 6", "-; -; 5 6; 5; 6; 6; 3; -", "1; 2 3 5 6; 4; -; -; -; 7; -"}},
	})
}

func TestIs(t *testing.T) {
	f := fun(t, "goto 1; if 2 6; if 3 4; goto 5; goto 5; goto 1; ret; goto 5")
	for _, pair := range [][2]int{{0, 0}, {0, 1}, {0, 5}, {0, 6}, {1, 1}, {1, 2}, {1, 5}, {1, 6}, {2, 3}, {2, 4}, {2, 5}, {5, 5}, {6, 6}} {
		if !dom.Is(f, pair[0], pair[1]) {
			t.Error(pair)
		}
	}
	for _, pair := range [][2]int{{1, 0}, {5, 0}, {5, 1}, {5, 2}, {3, 5}, {4, 5}, {3, 4}, {4, 3}, {2, 6}, {6, 2}, {0, 7}, {7, 0}, {7, 5}, {5, 7}, {7, 7}} {
		if dom.Is(f, pair[0], pair[1]) {
			t.Error(pair)
		}
	}
}

// TestIsOfOneself: each that is reached dominates itself, and no other one.
func TestIsOfOneself(t *testing.T) {
	f := fun(t, "if 0 2; goto 1; if 2 4; goto 0; ret")
	for block, want := range []bool{true, false, true, false, true} {
		if is := dom.Is(f, block, block); is != want {
			t.Errorf("Is(%d, %d) = %v", block, block, is)
		}
	}
}

func TestIsOfBlocksBeside(t *testing.T) {
	f := fun(t, "if 0 1; goto 2; goto 0; goto 1")
	beside := []int{-1, -2, -3, -4, 4, 5, 8, 1 << 32, 1<<32 + 1, -1 << 32, math.MaxInt, math.MinInt, math.MinInt + 1}
	for _, a := range beside {
		for block := range f.Blocks {
			if dom.Is(f, a, block) || dom.Is(f, block, a) {
				t.Error(a, block)
			}
		}
		for _, b := range append(beside, 0, 1) {
			if dom.Is(api.Fun{}, a, b) || dom.Is(api.Fun{}, b, a) {
				t.Error(a, b)
			}
		}
		for _, b := range beside {
			if dom.Is(f, a, b) {
				t.Error(a, b)
			}
		}
	}
	if dom.Is(api.Fun{}, 0, 0) {
		t.Error("of none")
	}
}

func wantFronts(t *testing.T, f api.Fun, blocks []int, want ...int) {
	t.Helper()
	if got := dom.Fronts(f, blocks); !slices.Equal(got, want) {
		t.Errorf("Fronts(%v) = %v, want %v", blocks, got, want)
	}
}

func TestFronts(t *testing.T) {
	f := fun(t, "goto 1; if 2 6; if 3 4; goto 5; goto 5; goto 1; ret; goto 5")
	wantFronts(t, f, nil)
	wantFronts(t, f, []int{})
	wantFronts(t, f, []int{0})
	wantFronts(t, f, []int{1}, 1)
	wantFronts(t, f, []int{2}, 1)
	wantFronts(t, f, []int{3}, 1, 5)
	wantFronts(t, f, []int{5}, 1)
	wantFronts(t, f, []int{6})
	wantFronts(t, f, []int{7})
	wantFronts(t, f, []int{6, 0, 7})
	wantFronts(t, f, []int{4, 3}, 1, 5)
	wantFronts(t, f, []int{0, 1, 2, 3, 4, 5, 6, 7}, 1, 5)
}

// TestFrontsOfFronts: what is found has fronts of its own, that of a loop's
// head itself among them.
func TestFrontsOfFronts(t *testing.T) {
	stairs := fun(t, "if 1 9; if 2 8; if 3 7; if 4 6; goto 5; goto 6; goto 7; goto 8; goto 9; ret")
	wantFronts(t, stairs, []int{5}, 6, 7, 8, 9)
	wantFronts(t, stairs, []int{6}, 7, 8, 9)
	wantFronts(t, stairs, []int{2}, 8, 9)
	wantFronts(t, stairs, []int{8}, 9)
	wantFronts(t, stairs, []int{1}, 9)
	wantFronts(t, stairs, []int{0, 9})
	loops := fun(t, "goto 1; goto 2; goto 3; if 3 4; if 2 5; if 1 6; ret")
	wantFronts(t, loops, []int{3}, 1, 2, 3)
	wantFronts(t, loops, []int{4}, 1, 2)
	wantFronts(t, loops, []int{5}, 1)
	wantFronts(t, loops, []int{6})
	twins := fun(t, "if 1 2; goto 3; goto 4; goto 4; goto 3")
	wantFronts(t, twins, []int{1}, 3, 4)
	wantFronts(t, twins, []int{2}, 3, 4)
	wantFronts(t, twins, []int{3}, 3, 4)
	wantFronts(t, twins, []int{4}, 3, 4)
	wantFronts(t, twins, []int{0})
	home := fun(t, "if 1 2; goto 3; goto 3; if 0 4; ret")
	wantFronts(t, home, []int{2}, 0, 3)
	wantFronts(t, home, []int{0}, 0)
	wantFronts(t, home, []int{4})
}

// TestFrontsHaveNotTheBlocks: those that are handed in are there only if they
// are found.
func TestFrontsHaveNotTheBlocks(t *testing.T) {
	f := fun(t, "if 1 2; goto 3; goto 3; if 4 5; goto 6; goto 6; ret")
	wantFronts(t, f, []int{1}, 3)
	wantFronts(t, f, []int{1, 2}, 3)
	wantFronts(t, f, []int{3})
	wantFronts(t, f, []int{1, 3}, 3)
	wantFronts(t, f, []int{4, 1}, 3, 6)
	wantFronts(t, f, []int{6, 5}, 6)
}

func TestFrontsOfOddRows(t *testing.T) {
	f := fun(t, "if 1 2; goto 3; goto 3; ret; goto 1; goto 5")
	wantFronts(t, f, []int{1, 1}, 3)
	wantFronts(t, f, []int{2, 1, 2, 1, 0, 2}, 3)
	wantFronts(t, f, []int{4})
	wantFronts(t, f, []int{5, 4, 5})
	wantFronts(t, f, []int{4, 2, 5}, 3)
	beside := []int{-1, -2, 6, 7, 1 << 32, 1<<32 + 1, math.MaxInt, math.MinInt}
	wantFronts(t, f, beside)
	wantFronts(t, f, append(beside, 2), 3)
	wantFronts(t, f, append([]int{1}, beside...), 3)
	wantFronts(t, api.Fun{}, nil)
	wantFronts(t, api.Fun{}, []int{0, 1, -1})
	wantFronts(t, api.Fun{}, beside)
	wantFronts(t, f, make([]int, 0, 3))
	wantFronts(t, f, []int{0, 1, 2}[:1])
	long := make([]int, 1<<16)
	for at := range long {
		long[at] = at % 3
	}
	wantFronts(t, f, long, 3)
}

// TestRoomBehindIsNoBlock: what stands in a row's spare room plays no part.
func TestRoomBehindIsNoBlock(t *testing.T) {
	f := fun(t, "if 1 2; goto 2; goto 0")
	f.Blocks = f.Blocks[:2]
	if got, want := tell(f), (told{"-1 0", "-; -", "1; -"}); got != want {
		t.Errorf("%+v, want %+v", got, want)
	}
	if dom.Is(f, 2, 2) || dom.Is(f, 0, 2) {
		t.Error("is")
	}
	wantFronts(t, f, []int{1, 2})
}

// TestAnswersAreOfEndsAlone: what instructions and Lists are there, and what
// Arg is, makes no difference.
func TestAnswersAreOfEndsAlone(t *testing.T) {
	text := "goto 1; if 2 4; if 3 1; goto 1; ret; goto 4"
	want := tell(fun(t, text))
	for _, arg := range []int{-1, 0, 1, 4, 9, math.MaxInt, math.MinInt} {
		f := fun(t, text)
		f.Name, f.Params, f.Result, f.Slots = "f", []string{"int"}, "bool", []string{"*T"}
		f.Ins = []api.Ins{{Op: api.Flag, N: arg}, {Op: api.Phi, Args: []int{arg, 5}}}
		for block := range f.Blocks {
			f.Blocks[block].Arg = arg
			f.Blocks[block].List = []int{arg, 1, 5}
		}
		if got := tell(f); got != want {
			t.Errorf("with %d: %+v, want %+v", arg, got, want)
		}
	}
}

// made is a function whose blocks end as is told of each.
func made(count int, end func(block int) api.Block) api.Fun {
	f := api.Fun{Blocks: make([]api.Block, count)}
	for block := range f.Blocks {
		f.Blocks[block] = end(block)
	}
	return f
}

func goTo(to int) api.Block              { return api.Block{Jump: api.Goto, Arg: -1, To: [2]int{to, 0}} }
func either(first, second int) api.Block { return api.Block{Jump: api.If, To: [2]int{first, second}} }

func wantNearest(t *testing.T, f api.Fun, want func(block int) int) {
	t.Helper()
	nearest := dom.Nearest(f)
	if len(nearest) != len(f.Blocks) {
		t.Fatal(len(nearest))
	}
	for block, above := range nearest {
		if above != want(block) {
			t.Fatalf("Nearest of %d is %d, want %d", block, above, want(block))
		}
	}
}

func before(block int) int { return block - 1 }

// TestLongWays has ways so long that they can't be calls within one another on
// the stack that is left here.
func TestLongWays(t *testing.T) {
	defer debug.SetMaxStack(debug.SetMaxStack(16 << 20))
	for _, count := range []int{api.MaxBlocks, 1 << 18} {
		wantLong(t, made(count, func(block int) api.Block { return goTo(block + 1) }), false)
		wantLong(t, made(count, func(block int) api.Block { return either(block+1, 0) }), true)
		wantLong(t, made(count, func(block int) api.Block { return either(0, block+1) }), true)
	}
}

// wantLong asks of a chain each of whose blocks may lead back to the block 0.
func wantLong(t *testing.T, f api.Fun, isLoop bool) {
	t.Helper()
	wantNearest(t, f, before)
	last := len(f.Blocks) - 1
	under, front := dom.Under(f), dom.Front(f)
	for block := range f.Blocks {
		if block < last && !slices.Equal(under[block], []int{block + 1}) || (len(front[block]) == 1) != isLoop {
			t.Fatal(block, under[block], front[block])
		}
	}
	if !dom.Is(f, 0, last) || !dom.Is(f, last/2, last) || dom.Is(f, last, last/2) || len(under[last]) != 0 {
		t.Error("the ends")
	}
	if isLoop {
		wantFronts(t, f, []int{last}, 0)
	} else {
		wantFronts(t, f, []int{0, last})
	}
}

// TestDeepLoops has so many loops within one another that a row of each
// block's front would take too much room; the fronts of one are short yet.
func TestDeepLoops(t *testing.T) {
	many := 1 << 17
	f := made(2*many, func(block int) api.Block {
		if block < many {
			return goTo(block + 1)
		}
		return either(2*many-1-block, block+1)
	})
	wantNearest(t, f, before)
	if fronts := dom.Fronts(f, []int{many}); len(fronts) != many || fronts[0] != 0 || !slices.IsSorted(fronts) {
		t.Error(len(fronts))
	}
	wantFronts(t, f, []int{2*many - 1}, 0)
	wantFronts(t, f, []int{2*many - 3}, 0, 1, 2)
}

// TestDeepLoopsAtTheLimit asks of each front of as many blocks as a program's
// function may have.
func TestDeepLoopsAtTheLimit(t *testing.T) {
	many := api.MaxBlocks / 2
	f := made(2*many, func(block int) api.Block {
		if block < many {
			return goTo(block + 1)
		}
		return either(2*many-1-block, block+1)
	})
	for block, front := range dom.Front(f) {
		want := min(block+1, 2*many-block)
		if len(front) != want || front[0] != 0 || front[want-1] != want-1 || !slices.IsSorted(front) {
			t.Fatal(block, len(front))
		}
	}
}

// TestWaysInAtEachStep: of a long loop that may be entered everywhere, and
// gone both ways, each nearest one is the block 0; whoever goes round till
// nothing changes goes round often.
func TestWaysInAtEachStep(t *testing.T) {
	many := 1 << 17
	// First come forks that lead in, then a way up and down.
	f := made(3*many, func(block int) api.Block {
		switch {
		case block == many-1 || block == 2*many-1:
			return goTo(block + many)
		case block < 2*many:
			return either(block+1, block+many)
		}
		return goTo(max(block-many-1, many))
	})
	wantNearest(t, f, func(block int) int {
		switch {
		case block < many:
			return block - 1
		case block < 2*many:
			return 0
		}
		return block - many
	})
}

// TestManyAhead: all blocks lead to the last one, and each to the next one; a
// way up for each would take too long.
func TestManyAhead(t *testing.T) {
	last := 1<<17 - 1
	f := made(last+1, func(block int) api.Block { return either(last, block+1) })
	wantNearest(t, f, func(block int) int {
		if block == last {
			return 0
		}
		return block - 1
	})
	for block, front := range dom.Front(f) {
		if block > 0 && !slices.Equal(front, []int{last}) || block == 0 && len(front) > 0 {
			t.Fatal(block, front)
		}
	}
	if under := dom.Under(f)[0]; !slices.Equal(under, []int{1, last}) {
		t.Error(under)
	}
	wantFronts(t, f, []int{1}, last)
	wantFronts(t, f, []int{last}, last)
}
