package ir_test

import (
	"fmt"
	"math"
	"math/rand"
	"slices"
	"testing"

	"truant/api"
	"truant/ir"
)

// plainWords are the table's by number.
func plainWords(t *testing.T) map[int]string {
	words := map[int]string{}
	for _, row := range opRows(t) {
		words[row.op] = row.word
	}
	return words
}

// plainLine writes backwards, from the last word to the first.
func plainLine(words map[int]string, f api.Fun, place int) string {
	for at, ins := range f.Ins {
		if at != place || words[ins.Op] == "" {
			continue
		}
		text := ""
		for i := range ins.Args {
			text = fmt.Sprintf(" v%d", ins.Args[len(ins.Args)-1-i]) + text
		}
		text = fmt.Sprintf(" %d", ins.N) + text
		for _, word := range []string{ins.Name, ins.Type} {
			if len(word) > 0 {
				text = " " + word + text
			}
		}
		return fmt.Sprintf("v%d = %s", place, words[ins.Op]) + text
	}
	return ""
}

func plainEnd(b api.Block) string {
	if b.Jump == 3 && b.Arg == -1 {
		return "ret"
	}
	forms := map[int]string{1: "goto %[2]d", 2: "if v%[1]d %[2]d %[3]d", 3: "ret v%[1]d"}
	form, is := forms[b.Jump]
	if !is {
		form = "jump %[4]d"
	}
	return fmt.Sprintf(form, b.Arg, b.To[0], b.To[1], b.Jump)
}

func plainLines(words map[int]string, p api.Prog) []string {
	var lines []string
	add := func(text string) { lines = append(lines, text) }
	for _, s := range p.Structs {
		text := "struct " + s.Name
		for _, field := range s.Fields {
			text += " " + field.Name + ":" + field.Type
		}
		add(text)
	}
	for _, g := range p.Globals {
		add("global " + g.Name + " " + g.Type)
	}
	for _, f := range p.Funs {
		text := "func " + f.Name
		for _, typ := range append(slices.Clone(f.Params), "->") {
			text += " " + typ
		}
		if f.Result != "" {
			text += " " + f.Result
		}
		add(text)
		text = "slots"
		for _, typ := range f.Slots {
			text += " " + typ
		}
		if text != "slots" {
			add(text)
		}
		for at, b := range f.Blocks {
			add(fmt.Sprintf("block %d", at))
			for _, place := range b.List {
				add(plainLine(words, f, place))
			}
			add(plainEnd(b))
		}
	}
	return lines
}

// plainUses goes through the Lists, and sorts what it finds.
func plainUses(f api.Fun, place int) []int {
	found := map[int]int{}
	for _, b := range f.Blocks {
		for _, at := range b.List {
			if at < 0 || at >= len(f.Ins) {
				continue
			}
			for _, arg := range f.Ins[at].Args {
				if arg == place {
					found[at]++
				}
			}
		}
	}
	var uses []int
	for at := range found {
		uses = append(uses, at)
	}
	slices.Sort(uses)
	return uses
}

// grower makes programs out of few numbers and texts, so that many are the
// same in much; wild ones hold what nobody would make.
type grower struct {
	*rand.Rand
	wild bool
}

func (g grower) number() int {
	if g.wild && g.Intn(4) == 0 {
		return []int{-1, -2, 19, 35, 1 << 40, math.MaxInt, math.MinInt}[g.Intn(7)]
	}
	return g.Intn(6)
}

func (g grower) text() string {
	if g.wild && g.Intn(4) == 0 {
		return []string{"", " ", "a b", "\n", ":", "->", "é\x80"}[g.Intn(7)]
	}
	return []string{"int", "bool", "*T", "T", "x"}[g.Intn(5)]
}

func (g grower) textOrNone() string {
	if g.Intn(3) == 0 {
		return ""
	}
	return g.text()
}

// rowOf makes rows of up to so many, of which some are nil, some empty, and
// some have spare room.
func rowOf[E any](g grower, most int, one func() E) []E {
	var row []E
	if g.Intn(2) == 0 {
		row = make([]E, 0, g.Intn(most+3))
	}
	for range g.Intn(most + 1) {
		row = append(row, one())
	}
	return row
}

func (g grower) field() api.Field { return api.Field{Name: g.text(), Type: g.text()} }

func (g grower) structure() api.Struct {
	return api.Struct{Name: g.text(), Fields: rowOf(g, 3, g.field)}
}

func (g grower) ins() api.Ins {
	op := g.Intn(37)
	if g.wild {
		op += g.number()
	}
	return api.Ins{Op: op, Type: g.textOrNone(), Args: rowOf(g, 3, g.number), N: g.number(), Name: g.textOrNone()}
}

func (g grower) block() api.Block {
	b := api.Block{List: rowOf(g, 5, g.number), Jump: 1 + g.Intn(3), Arg: g.number(), To: [2]int{g.number(), g.number()}}
	if g.wild {
		b.Jump = g.number()
	}
	if g.Intn(3) == 0 {
		b.Arg = -1
	}
	return b
}

func (g grower) fun() api.Fun {
	return api.Fun{
		Name: g.text(), Params: rowOf(g, 2, g.text), Result: g.textOrNone(), Slots: rowOf(g, 2, g.text),
		Ins: rowOf(g, 6, g.ins), Blocks: rowOf(g, 3, g.block),
	}
}

func (g grower) prog() api.Prog {
	return api.Prog{Structs: rowOf(g, 2, g.structure), Globals: rowOf(g, 2, g.field), Funs: rowOf(g, 2, g.fun)}
}

// eachGrown hands out grown programs, every second one wild.
func eachGrown(count int, see func(g grower, p api.Prog)) {
	for seed := range count {
		g := grower{rand.New(rand.NewSource(int64(seed))), seed%2 == 1}
		see(g, g.prog())
	}
}

func TestGrownLines(t *testing.T) {
	words := plainWords(t)
	eachGrown(6000, func(_ grower, p api.Prog) {
		if lines, want := ir.Lines(p), plainLines(words, p); !slices.Equal(lines, want) {
			t.Fatalf("Lines are\n%q, want\n%q", lines, want)
		}
		for _, f := range p.Funs {
			for place := -2; place < len(f.Ins)+2; place++ {
				wantLine(t, f, place, plainLine(words, f, place))
			}
		}
	})
}

func TestGrownUses(t *testing.T) {
	found := 0
	eachGrown(6000, func(_ grower, p api.Prog) {
		for _, f := range p.Funs {
			for _, place := range []int{-2, -1, 0, 1, 2, 3, 4, 5, 6, 7, 19, 35, math.MaxInt, math.MinInt} {
				want := plainUses(f, place)
				wantUses(t, f, place, want...)
				found += len(want)
			}
		}
	})
	if found < 6000 {
		t.Error("few of the grown are used:", found)
	}
}

// TestGrownSame holds each program against others that differ in little, or
// in nothing at all.
func TestGrownSame(t *testing.T) {
	small := func(seed int) api.Prog {
		g := grower{rand.New(rand.NewSource(int64(seed))), false}
		one := func() api.Fun { return api.Fun{Ins: rowOf(g, 1, func() api.Ins { return api.Ins{N: g.Intn(2)} })} }
		return api.Prog{Structs: rowOf(g, 1, func() api.Struct { return api.Struct{} }), Funs: rowOf(g, 2, one)}
	}
	counts := map[bool]int{}
	for seed := range 20000 {
		p, q := small(seed), small(seed+20000)
		want := picture(p, false) == picture(q, false)
		counts[want]++
		if ir.Same(p, q) != want {
			t.Fatalf("Same of\n%#v and\n%#v is %v", p, q, !want)
		}
		if want && !slices.Equal(ir.Lines(p), ir.Lines(q)) {
			t.Fatalf("the same, but not in their lines:\n%#v\n%#v", p, q)
		}
	}
	if counts[true] < 500 || counts[false] < 500 {
		t.Error(counts)
	}
}

func TestGrownClones(t *testing.T) {
	eachGrown(3000, func(_ grower, p api.Prog) {
		first := picture(p, true)
		q := ir.Clone(p)
		if !ir.Same(p, q) || picture(q, false) != picture(p, false) || !slices.Equal(ir.Lines(p), ir.Lines(q)) {
			t.Fatalf("not the same: %#v", p)
		}
		changed := 0
		eachChange(&q, 1, func(string) {
			changed++
			if ir.Same(p, q) {
				t.Fatalf("the same, but for a change: %#v", p)
			}
		})
		if changed == 0 || picture(p, true) != first {
			t.Fatalf("%d changes, now: %#v", changed, p)
		}
	})
}
