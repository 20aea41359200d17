package dom_test

import (
	"fmt"
	"math"
	"math/rand"
	"slices"
	"testing"

	"truant/api"
	"truant/dom"
)

// plainLeads: whether b is a next one of a, asked of one pair at a time.
func plainLeads(f api.Fun, a, b int) bool {
	end := f.Blocks[a]
	isFirst := end.To[0] == b && (end.Jump == 1 || end.Jump == 2)
	return isFirst || end.To[1] == b && end.Jump == 2
}

// plainReached goes round till nobody is added; one block may not be gone
// through.
func plainReached(f api.Fun, without int) []bool {
	reached := make([]bool, len(f.Blocks))
	for isMore := true; isMore; {
		isMore = false
		for b := range f.Blocks {
			if reached[b] || b == without {
				continue
			}
			reached[b] = b == 0
			for a := range f.Blocks {
				reached[b] = reached[b] || reached[a] && plainLeads(f, a, b)
			}
			isMore = isMore || reached[b]
		}
	}
	return reached
}

// plain is all that is to be answered of a function: the document's words,
// one by one.
type plain struct {
	reached []bool
	is      [][]bool // is[a][b]: whether a dominates b
	nearest []int
	front   [][]int
	under   [][]int
}

func plainOf(f api.Fun) plain {
	p := plain{reached: plainReached(f, -1)}
	for a := range f.Blocks {
		left := plainReached(f, a)
		is := make([]bool, len(f.Blocks))
		for b := range f.Blocks {
			is[b] = p.reached[a] && p.reached[b] && (a == b || !left[b])
		}
		p.is = append(p.is, is)
	}
	for b := range f.Blocks {
		p.nearest = append(p.nearest, p.nearestOf(b))
		p.front = append(p.front, p.frontOf(f, b))
	}
	for a := range f.Blocks {
		var under []int
		for b := range f.Blocks {
			if p.nearest[b] == a {
				under = append(under, b)
			}
		}
		p.under = append(p.under, under)
	}
	return p
}

func (p plain) nearestOf(b int) int {
	for a := range p.is {
		isAll := a != b && p.is[a][b]
		for c := range p.is {
			isAll = isAll && (c == b || !p.is[c][b] || p.is[c][a])
		}
		if isAll {
			return a
		}
	}
	return -1
}

func (p plain) frontOf(f api.Fun, a int) []int {
	var front []int
	for b := range f.Blocks {
		isLed := false
		for c := range f.Blocks {
			isLed = isLed || p.is[a][c] && plainLeads(f, c, b)
		}
		if isLed && (a == b || !p.is[a][b]) {
			front = append(front, b)
		}
	}
	return front
}

// fronts puts fronts together till nobody is added.
func (p plain) fronts(blocks []int) []int {
	isIn := make([]bool, len(p.front))
	add := func(block int) bool {
		isMore := false
		for _, b := range p.front[block] {
			isMore = isMore || !isIn[b]
			isIn[b] = true
		}
		return isMore
	}
	for _, block := range blocks {
		if block >= 0 && block < len(isIn) {
			add(block)
		}
	}
	for isMore := true; isMore; {
		isMore = false
		for block, is := range isIn {
			isMore = is && add(block) || isMore
		}
	}
	var fronts []int
	for block, is := range isIn {
		if is {
			fronts = append(fronts, block)
		}
	}
	return fronts
}

func sameRows(a, b [][]int) bool {
	return slices.EqualFunc(a, b, func(a, b []int) bool { return slices.Equal(a, b) })
}

func wantPlain(t *testing.T, f api.Fun) {
	t.Helper()
	p := plainOf(f)
	if nearest := dom.Nearest(f); !slices.Equal(nearest, p.nearest) {
		t.Fatalf("%v: Nearest = %v, want %v", f.Blocks, nearest, p.nearest)
	}
	if front := dom.Front(f); !sameRows(front, p.front) {
		t.Fatalf("%v: Front = %v, want %v", f.Blocks, front, p.front)
	}
	if under := dom.Under(f); !sameRows(under, p.under) {
		t.Fatalf("%v: Under = %v, want %v", f.Blocks, under, p.under)
	}
	for a := range f.Blocks {
		for b := range f.Blocks {
			if is := dom.Is(f, a, b); is != p.is[a][b] {
				t.Fatalf("%v: Is(%d, %d) = %v", f.Blocks, a, b, is)
			}
		}
		if fronts, want := dom.Fronts(f, []int{a}), p.fronts([]int{a}); !slices.Equal(fronts, want) {
			t.Fatalf("%v: Fronts(%d) = %v, want %v", f.Blocks, a, fronts, want)
		}
	}
}

// wantPlainFronts asks of a row of any blocks.
func wantPlainFronts(t *testing.T, f api.Fun, blocks []int) {
	t.Helper()
	if fronts, want := dom.Fronts(f, blocks), plainOf(f).fronts(blocks); !slices.Equal(fronts, want) {
		t.Fatalf("%v: Fronts(%v) = %v, want %v", f.Blocks, blocks, fronts, want)
	}
}

// wantOrderly asks what P10.3 says, that rows rise and hold nobody twice, and
// how the answers hang together, by the answers alone.
func wantOrderly(t *testing.T, f api.Fun) {
	t.Helper()
	nearest, front, under := dom.Nearest(f), dom.Front(f), dom.Under(f)
	if len(nearest) != len(f.Blocks) || len(front) != len(f.Blocks) || len(under) != len(f.Blocks) {
		t.Fatalf("%v: %v, %v, %v", f.Blocks, nearest, front, under)
	}
	for c := range f.Blocks {
		wantRising(t, f, front[c])
		wantRising(t, f, under[c])
		wantRising(t, f, dom.Fronts(f, []int{c}))
		var over []int
		for a := range f.Blocks {
			if dom.Is(f, a, c) {
				over = append(over, a)
			}
			if slices.Contains(under[a], c) != (nearest[c] == a) {
				t.Fatalf("%v: %v, under %d: %v", f.Blocks, nearest, a, under[a])
			}
		}
		for _, a := range over {
			for _, b := range over {
				if !dom.Is(f, a, b) && !dom.Is(f, b, a) {
					t.Fatalf("%v: of %d and %d over %d none dominates the other one", f.Blocks, a, b, c)
				}
			}
		}
		for _, b := range front[c] {
			if b != c && dom.Is(f, c, b) {
				t.Fatalf("%v: %d has in its front %d, which it dominates", f.Blocks, c, b)
			}
		}
	}
}

func wantRising(t *testing.T, f api.Fun, list []int) {
	t.Helper()
	for at, block := range list {
		if block < 0 || block >= len(f.Blocks) || at > 0 && list[at-1] >= block {
			t.Fatalf("%v: %v", f.Blocks, list)
		}
	}
}

// eachEnd hands out all ends whose To are from one below 0 to one behind the
// last of so many blocks.
func eachEnd(count int) []api.Block {
	list := []api.Block{{Jump: api.Ret, To: [2]int{0, 1}}, {Jump: 4, To: [2]int{1, 0}}}
	for a := -1; a <= count; a++ {
		list = append(list, api.Block{Jump: api.Goto, To: [2]int{a, 0}})
		for b := -1; b <= count; b++ {
			list = append(list, api.Block{Jump: api.If, To: [2]int{a, b}})
		}
	}
	return list
}

// fewEnds hands out one end for each set of blocks to which a block may lead.
func fewEnds(count int) []api.Block {
	list := []api.Block{{Jump: api.Ret}}
	for a := range count {
		list = append(list, api.Block{Jump: api.Goto, To: [2]int{a, 0}})
		for b := range a {
			list = append(list, api.Block{Jump: api.If, To: [2]int{b, a}})
		}
	}
	return list
}

// eachOf hands out all functions of so many blocks with such ends.
func eachOf(count int, ends []api.Block, see func(f api.Fun)) {
	all := 1
	for range count {
		all *= len(ends)
	}
	for number := range all {
		f := api.Fun{Blocks: make([]api.Block, count)}
		for block := range f.Blocks {
			f.Blocks[block] = ends[number%len(ends)]
			number /= len(ends)
		}
		see(f)
	}
}

// TestEachSmallFunction has all with up to three blocks, and of those with
// four all that differ in who leads to whom.
func TestEachSmallFunction(t *testing.T) {
	for count := range 4 {
		eachOf(count, eachEnd(count), func(f api.Fun) {
			wantPlain(t, f)
			wantOrderly(t, f)
		})
	}
	eachOf(4, fewEnds(4), func(f api.Fun) { wantPlain(t, f) })
}

// TestEachRowOfBlocks asks Fronts of each row of up to two blocks, and some
// beside, of all functions with three that differ in who leads to whom.
func TestEachRowOfBlocks(t *testing.T) {
	eachOf(3, fewEnds(3), func(f api.Fun) {
		for a := -1; a <= 3; a++ {
			for b := -1; b <= 3; b++ {
				wantPlainFronts(t, f, []int{a, b})
			}
		}
	})
}

// grower makes functions; wild ones hold what nobody would make.
type grower struct {
	*rand.Rand
	wild bool
}

func (g grower) number(count int) int {
	if g.wild && g.Intn(9) == 0 {
		return []int{-1, -count, count, count + 1, 1 << 40, math.MaxInt, math.MinInt}[g.Intn(7)]
	}
	return g.Intn(count + 1)
}

func (g grower) list(count int) []int {
	list := make([]int, g.Intn(6), 8)
	for at := range list {
		list[at] = g.number(count)
	}
	return list
}

// fun has up to most blocks; near ones lead mostly to those beside, so that
// there are long ways, and loops within loops.
func (g grower) fun(most int) api.Fun {
	f := api.Fun{Ins: make([]api.Ins, g.Intn(4)), Blocks: make([]api.Block, g.Intn(most+1), most+2)}
	isNear, rets, back := g.Intn(3) > 0, 4+g.Intn(20+4*most), 2+g.Intn(6)
	to := func(block int) int {
		switch {
		case !isNear || g.Intn(12) == 0:
			return g.number(len(f.Blocks))
		case g.Intn(back) == 0:
			return block - g.Intn(6)
		}
		return block + 1 + g.Intn(3)
	}
	for block := range f.Blocks {
		b := api.Block{List: g.list(len(f.Ins)), Jump: api.Goto + min(g.Intn(3), 1), Arg: g.number(9), To: [2]int{to(block), to(block)}}
		if g.Intn(rets) == 0 {
			b.Jump = api.Ret
		}
		if g.wild && g.Intn(2*most) == 0 {
			b.Jump = g.number(5)
		}
		f.Blocks[block] = b
	}
	return f
}

// eachGrown hands out grown functions, every second one wild.
func eachGrown(count, most int, see func(g grower, f api.Fun)) {
	for seed := range count {
		g := grower{rand.New(rand.NewSource(int64(seed))), seed%2 == 1}
		see(g, g.fun(most))
	}
}

func TestGrown(t *testing.T) {
	counts := map[string]int{}
	see := func(g grower, f api.Fun) {
		wantPlain(t, f)
		wantOrderly(t, f)
		wantPlainFronts(t, f, g.list(len(f.Blocks)))
		for block, above := range dom.Nearest(f) {
			if above >= 0 {
				counts["under another one"]++
			}
			if above > 0 && len(dom.Fronts(f, []int{block})) > len(dom.Front(f)[block]) {
				counts["fronts of fronts"]++
			}
		}
	}
	eachGrown(4000, 9, see)
	eachGrown(200, 40, see)
	// Else the grown ones would ask nothing.
	if counts["under another one"] < 5000 || counts["fronts of fronts"] < 1000 {
		t.Error(counts)
	}
}

// TestGrownLong asks the greater ones by going round, since each block's being
// left out would take too long: of those that dominate a block all but itself
// dominate all that are ahead of it.
func TestGrownLong(t *testing.T) {
	reached := 0
	eachGrown(200, 400, func(g grower, f api.Fun) {
		over := roundOver(f)
		nearest := dom.Nearest(f)
		for block, above := range nearest {
			count := 0
			for at := block; at != -1 && over[block] != nil; at = nearest[at] {
				count++
				if !over[block][at] {
					t.Fatalf("%v: %d dominates %d", f.Blocks, at, block)
				}
			}
			all := 0
			for _, is := range over[block] {
				if is {
					all++
				}
			}
			if count != all || over[block] == nil && above != -1 {
				t.Fatalf("%v: %d dominate %d, not %d", f.Blocks, all, block, count)
			}
			reached += min(count, 1)
		}
	})
	if reached < 10000 {
		t.Error(reached)
	}
}

// roundOver: of each block, by block, who dominates it; nil, if it isn't
// reached.
func roundOver(f api.Fun) [][]bool {
	over := make([][]bool, len(f.Blocks))
	for isMore := true; isMore; {
		isMore = false
		for block := range f.Blocks {
			var row []bool
			if block == 0 {
				row = make([]bool, len(f.Blocks))
			}
			for from := range f.Blocks {
				if block == 0 || over[from] == nil || !plainLeads(f, from, block) {
					continue
				}
				if row == nil {
					row = slices.Clone(over[from])
				}
				for at := range row {
					row[at] = row[at] && over[from][at]
				}
			}
			if row != nil {
				row[block] = true
			}
			isMore = isMore || !slices.Equal(row, over[block])
			over[block] = row
		}
	}
	return over
}

// TestGrownByOtherNumbers: with other numbers for all blocks but 0 the answers
// have the other numbers, too.
func TestGrownByOtherNumbers(t *testing.T) {
	eachGrown(2000, 20, func(g grower, f api.Fun) {
		if len(f.Blocks) == 0 {
			return
		}
		other := g.Perm(len(f.Blocks))
		at := slices.Index(other, 0)
		other[0], other[at] = other[at], other[0]
		rename := func(block int) int {
			if block < 0 || block >= len(other) {
				return block
			}
			return other[block]
		}
		renamed := func(list []int) []int {
			var row []int
			for _, block := range list {
				row = append(row, rename(block))
			}
			slices.Sort(row)
			return row
		}
		q := api.Fun{Blocks: make([]api.Block, len(f.Blocks))}
		for block, b := range f.Blocks {
			q.Blocks[other[block]] = api.Block{Jump: b.Jump, To: [2]int{rename(b.To[0]), rename(b.To[1])}}
		}
		nearest, front, under := dom.Nearest(q), dom.Front(q), dom.Under(q)
		for block, above := range dom.Nearest(f) {
			its := other[block]
			if nearest[its] != rename(above) || !slices.Equal(front[its], renamed(dom.Front(f)[block])) || !slices.Equal(under[its], renamed(dom.Under(f)[block])) {
				t.Fatalf("%v and %v: %d and %d", f.Blocks, q.Blocks, block, its)
			}
		}
		blocks := g.list(len(f.Blocks))
		if fronts := dom.Fronts(q, renamed(blocks)); !slices.Equal(fronts, renamed(dom.Fronts(f, blocks))) {
			t.Fatalf("%v and %v: %v", f.Blocks, q.Blocks, blocks)
		}
	})
}

// ask calls all that there is, and tells the answers.
func ask(f api.Fun, blocks []int) string {
	text := fmt.Sprint(dom.Nearest(f), dom.Front(f), dom.Under(f), dom.Fronts(f, blocks))
	for a := -2; a < len(f.Blocks)+2; a++ {
		for b := -2; b < len(f.Blocks)+2; b++ {
			text += fmt.Sprint(dom.Is(f, a, b))
		}
	}
	return text
}

// picture is all that is handed in, what is in the spare room of its rows too.
func picture(f api.Fun, blocks []int) string {
	text := fmt.Sprint(f, f.Ins[:cap(f.Ins)], f.Blocks[:cap(f.Blocks)], blocks[:cap(blocks)])
	for _, b := range f.Blocks {
		text += fmt.Sprint(b.List[:cap(b.List)])
	}
	return text
}

func TestNothingIsChanged(t *testing.T) {
	eachGrown(1000, 9, func(g grower, f api.Fun) {
		blocks := append(g.list(len(f.Blocks)), 3, 1)
		blocks = blocks[:len(blocks)-2]
		for block := range f.Blocks {
			f.Blocks[block].List = append(f.Blocks[block].List, 7)[:len(f.Blocks[block].List)]
		}
		first := picture(f, blocks)
		answers := ask(f, blocks)
		if picture(f, blocks) != first {
			t.Fatalf("%s was changed to %s", first, picture(f, blocks))
		}
		if again := ask(f, blocks); again != answers {
			t.Fatalf("%s, and again %s", answers, again)
		}
	})
}

// spoil writes over a row, and its spare room.
func spoil[E any](row []E, with E) {
	row = row[:cap(row)]
	for at := range row {
		row[at] = with
	}
}

// wantApart writes over each row, and looks whether the others are as before.
func wantApart(t *testing.T, list, want [][]int) {
	t.Helper()
	for at := range list {
		spoil(list[at], -7)
		for behind := at + 1; behind < len(list); behind++ {
			if !slices.Equal(list[behind], want[behind]) {
				t.Fatalf("the rows of %d and %d share memory", at, behind)
			}
		}
	}
	spoil(list, []int{-7})
}

// TestAnswersAreNew: whoever writes over answers changes neither what was
// handed in, nor an answer behind it, nor another row of the same answer.
func TestAnswersAreNew(t *testing.T) {
	eachGrown(1000, 9, func(g grower, f api.Fun) {
		blocks := g.list(len(f.Blocks))
		first, answers := picture(f, blocks), ask(f, blocks)
		p := plainOf(f)
		wantApart(t, dom.Front(f), p.front)
		wantApart(t, dom.Under(f), p.under)
		spoil(dom.Nearest(f), -7)
		spoil(dom.Fronts(f, blocks), -7)
		if picture(f, blocks) != first || ask(f, blocks) != answers {
			t.Fatalf("%s hangs on its answers", first)
		}
	})
}
