package flow_test

import (
	"fmt"
	"math"
	"math/rand"
	"slices"
	"testing"

	"truant/api"
	"truant/flow"
)

// plainLeads: whether b is a next one of a, asked of one pair at a time.
func plainLeads(f api.Fun, a, b int) bool {
	end := f.Blocks[a]
	isFirst := end.To[0] == b && (end.Jump == 1 || end.Jump == 2)
	return isFirst || end.To[1] == b && end.Jump == 2
}

// plainNext puts one of two that are found by number where To names it.
func plainNext(f api.Fun, a int) []int {
	var next []int
	for b := range f.Blocks {
		if plainLeads(f, a, b) {
			next = append(next, b)
		}
	}
	if len(next) == 2 && next[0] != f.Blocks[a].To[0] {
		next[0], next[1] = next[1], next[0]
	}
	return next
}

func plainAhead(f api.Fun, b int) []int {
	var ahead []int
	for a := range f.Blocks {
		if plainLeads(f, a, b) {
			ahead = append(ahead, a)
		}
	}
	return ahead
}

// plainReached goes round till nobody is added.
func plainReached(f api.Fun) []bool {
	reached := make([]bool, len(f.Blocks))
	for {
		isMore := false
		for b := range f.Blocks {
			if reached[b] {
				continue
			}
			reached[b] = b == 0 || slices.ContainsFunc(plainAhead(f, b), func(a int) bool { return reached[a] })
			isMore = isMore || reached[b]
		}
		if !isMore {
			return reached
		}
	}
}

// plainOrder is the document's walk, by calls within one another; each block
// is put ahead of those that are written down already.
func plainOrder(f api.Fun) []int {
	var order []int
	come := map[int]int{}
	var walk func(block int)
	walk = func(block int) {
		come[block]++
		for _, to := range plainNext(f, block) {
			if come[to] == 0 {
				walk(to)
			}
		}
		order = append([]int{block}, order...)
	}
	if len(f.Blocks) > 0 {
		walk(0)
	}
	return order
}

func plainBack(f api.Fun) [][2]int {
	order := plainOrder(f)
	var pairs [][2]int
	for a := range f.Blocks {
		for b := range f.Blocks {
			at := slices.Index(order, a)
			if at >= 0 && plainLeads(f, a, b) && slices.Contains(order[:at+1], b) {
				pairs = append(pairs, [2]int{a, b})
			}
		}
	}
	return pairs
}

func plainWhere(f api.Fun) []int {
	var where []int
	for place := range f.Ins {
		where = append(where, slices.IndexFunc(f.Blocks, func(b api.Block) bool { return slices.Contains(b.List, place) }))
	}
	return where
}

func wantPlain(t *testing.T, f api.Fun) {
	t.Helper()
	for block := range f.Blocks {
		if next, want := flow.Next(f, block), plainNext(f, block); !slices.Equal(next, want) {
			t.Fatalf("%v: Next(%d) = %v, want %v", f.Blocks, block, next, want)
		}
	}
	ahead := flow.Ahead(f)
	if len(ahead) != len(f.Blocks) {
		t.Fatalf("%v: Ahead = %v", f.Blocks, ahead)
	}
	for block := range f.Blocks {
		if want := plainAhead(f, block); !slices.Equal(ahead[block], want) {
			t.Fatalf("%v: Ahead of %d = %v, want %v", f.Blocks, block, ahead[block], want)
		}
	}
	if reached, want := flow.Reached(f), plainReached(f); !slices.Equal(reached, want) {
		t.Fatalf("%v: Reached = %v, want %v", f.Blocks, reached, want)
	}
	if order, want := flow.Order(f), plainOrder(f); !slices.Equal(order, want) {
		t.Fatalf("%v: Order = %v, want %v", f.Blocks, order, want)
	}
	if back, want := flow.Back(f), plainBack(f); !slices.Equal(back, want) {
		t.Fatalf("%v: Back = %v, want %v", f.Blocks, back, want)
	}
	if where, want := flow.Where(f), plainWhere(f); !slices.Equal(where, want) {
		t.Fatalf("%v: Where = %v, want %v", f.Blocks, where, want)
	}
}

// wantOrderly asks what P9.3 says, and that just those are in the order that
// are reached, by the answers of Ahead, Reached and Back alone.
func wantOrderly(t *testing.T, f api.Fun) {
	t.Helper()
	order, ahead, reached, back := flow.Order(f), flow.Ahead(f), flow.Reached(f), flow.Back(f)
	standing := map[int]int{}
	for at, block := range order {
		if _, is := standing[block]; is || block < 0 || block >= len(f.Blocks) || !reached[block] {
			t.Fatalf("%v: in %v %d stands again, or isn't reached", f.Blocks, order, block)
		}
		standing[block] = at
	}
	for block, is := range reached {
		at, isThere := standing[block]
		if is != isThere || is && (at == 0) != (block == 0) {
			t.Fatalf("%v: in %v %d stands at %d, %v", f.Blocks, order, block, at, isThere)
		}
		if !is {
			continue
		}
		isLed := false
		for _, from := range ahead[block] {
			if !reached[from] {
				continue
			}
			isBehind := standing[from] < at
			isLed = isLed || isBehind
			if isBehind == slices.Contains(back, [2]int{from, block}) {
				t.Fatalf("%v: in %v with %v %d stands at %d", f.Blocks, order, back, block, at)
			}
		}
		if !isLed && block != 0 {
			t.Fatalf("%v: in %v %d stands behind none that leads to it", f.Blocks, order, block)
		}
	}
}

// eachEnd hands out all ends whose To are from one below 0 to one behind the
// last of so many blocks.
func eachEnd(count int) []api.Block {
	list := []api.Block{{Jump: api.Ret, To: [2]int{0, 1}}, {Jump: 4, To: [2]int{1, 0}}}
	for a := -1; a <= count; a++ {
		list = append(list, api.Block{Jump: api.Goto, To: [2]int{a, 0}})
		for b := -1; b <= count; b++ {
			list = append(list, api.Block{Jump: api.If, To: [2]int{a, b}})
		}
	}
	return list
}

// TestEachSmallFunction has all with up to three blocks.
func TestEachSmallFunction(t *testing.T) {
	for count := range 4 {
		ends := eachEnd(count)
		all := 1
		for range count {
			all *= len(ends)
		}
		for number := range all {
			f := api.Fun{Blocks: make([]api.Block, count)}
			for block := range f.Blocks {
				f.Blocks[block] = ends[number%len(ends)]
				number /= len(ends)
			}
			wantPlain(t, f)
			wantOrderly(t, f)
		}
	}
}

// grower makes functions; wild ones hold what nobody would make.
type grower struct {
	*rand.Rand
	wild bool
}

func (g grower) number(count int) int {
	if g.wild && g.Intn(5) == 0 {
		return []int{-1, -count, count, count + 1, 1 << 40, math.MaxInt, math.MinInt}[g.Intn(7)]
	}
	return g.Intn(count + 1)
}

func (g grower) list(count int) []int {
	list := make([]int, g.Intn(6), 8)
	for at := range list {
		list[at] = g.number(count)
	}
	return list
}

// fun has up to most blocks; near ones lead mostly to the next blocks, so that
// there are long ways.
func (g grower) fun(most int) api.Fun {
	f := api.Fun{Ins: make([]api.Ins, g.Intn(10)), Blocks: make([]api.Block, g.Intn(most+1), most+2)}
	isNear, rets := g.Intn(2) == 0, 1+g.Intn(8)
	to := func(block int) int {
		if isNear && g.Intn(6) > 0 {
			return block + g.Intn(4)
		}
		return g.number(len(f.Blocks))
	}
	for block := range f.Blocks {
		b := api.Block{List: g.list(len(f.Ins)), Jump: api.Goto + g.Intn(2), Arg: g.number(9), To: [2]int{to(block), to(block)}}
		if g.Intn(rets) == 0 {
			b.Jump = api.Ret
		}
		if g.wild && g.Intn(8) == 0 {
			b.Jump = g.number(5)
		}
		f.Blocks[block] = b
	}
	return f
}

// eachGrown hands out grown functions, every second one wild.
func eachGrown(count, most int, see func(g grower, f api.Fun)) {
	for seed := range count {
		g := grower{rand.New(rand.NewSource(int64(seed))), seed%2 == 1}
		see(g, g.fun(most))
	}
}

func TestGrown(t *testing.T) {
	counts := map[string]int{}
	see := func(_ grower, f api.Fun) {
		wantPlain(t, f)
		wantOrderly(t, f)
		counts["blocks"] += len(f.Blocks)
		counts["reached"] += len(flow.Order(f))
		counts["back"] += len(flow.Back(f))
	}
	eachGrown(6000, 9, see)
	eachGrown(300, 60, see)
	// Else the grown ones would ask nothing.
	if counts["reached"] < 10000 || counts["blocks"] < counts["reached"]+10000 || counts["back"] < 2000 {
		t.Error(counts)
	}
}

// TestGrownWithoutBack: of those that lead on only, each stands behind all
// that are ahead of it, and are reached.
func TestGrownWithoutBack(t *testing.T) {
	eachGrown(2000, 30, func(g grower, f api.Fun) {
		for block := range f.Blocks {
			to := &f.Blocks[block].To
			*to = [2]int{block + 1 + g.Intn(3), block + 1 + g.Intn(9)}
		}
		order, ahead, reached := flow.Order(f), flow.Ahead(f), flow.Reached(f)
		if back := flow.Back(f); len(back) > 0 {
			t.Fatalf("%v: Back = %v", f.Blocks, back)
		}
		for at, block := range order {
			for _, from := range ahead[block] {
				if reached[from] && !slices.Contains(order[:at], from) {
					t.Fatalf("%v: in %v %d stands ahead of %d", f.Blocks, order, block, from)
				}
			}
		}
	})
}

// TestGrownByOtherNumbers: with other numbers for all blocks but 0 the answers
// have the other numbers, too, and the order is the same otherwise.
func TestGrownByOtherNumbers(t *testing.T) {
	eachGrown(2000, 20, func(g grower, f api.Fun) {
		if len(f.Blocks) == 0 {
			return
		}
		other := g.Perm(len(f.Blocks))
		at := slices.Index(other, 0)
		other[0], other[at] = other[at], other[0]
		rename := func(block int) int {
			if block < 0 || block >= len(other) {
				return block
			}
			return other[block]
		}
		q := api.Fun{Blocks: make([]api.Block, len(f.Blocks))}
		for block, b := range f.Blocks {
			q.Blocks[other[block]] = api.Block{Jump: b.Jump, To: [2]int{rename(b.To[0]), rename(b.To[1])}}
		}
		order := flow.Order(f)
		for i := range order {
			order[i] = other[order[i]]
		}
		if its := flow.Order(q); !slices.Equal(its, order) {
			t.Fatalf("%v: %v, want %v", q.Blocks, its, order)
		}
		back := flow.Back(f)
		for i, pair := range back {
			back[i] = [2]int{other[pair[0]], other[pair[1]]}
		}
		slices.SortFunc(back, func(a, b [2]int) int { return slices.Compare(a[:], b[:]) })
		if its := flow.Back(q); !slices.Equal(its, back) {
			t.Fatalf("%v: %v, want %v", q.Blocks, its, back)
		}
	})
}

// ask calls all that there is, and tells the answers.
func ask(f api.Fun) string {
	text := ""
	for block := -2; block < len(f.Blocks)+2; block++ {
		text += fmt.Sprint(flow.Next(f, block))
	}
	return text + fmt.Sprint(flow.Ahead(f), flow.Reached(f), flow.Order(f), flow.Where(f), flow.Back(f))
}

// picture is all that a function holds, what is in the spare room of its rows
// too.
func picture(f api.Fun) string {
	text := fmt.Sprint(f, f.Ins[:cap(f.Ins)], f.Blocks[:cap(f.Blocks)])
	for _, b := range f.Blocks {
		text += fmt.Sprint(b.List[:cap(b.List)])
	}
	return text
}

func TestNothingIsChanged(t *testing.T) {
	eachGrown(1000, 9, func(_ grower, f api.Fun) {
		for block := range f.Blocks {
			f.Blocks[block].List = append(f.Blocks[block].List, 7)[:len(f.Blocks[block].List)]
		}
		first := picture(f)
		answers := ask(f)
		if picture(f) != first {
			t.Fatalf("%s was changed to %s", first, picture(f))
		}
		if again := ask(f); again != answers {
			t.Fatalf("%s, and again %s", answers, again)
		}
	})
}

// spoil writes over a row, and its spare room.
func spoil[E any](row []E, with E) {
	row = row[:cap(row)]
	for at := range row {
		row[at] = with
	}
}

// TestAnswersAreNew: whoever writes over answers changes neither what was
// handed in, nor an answer behind it, nor another row of the same answer.
func TestAnswersAreNew(t *testing.T) {
	eachGrown(1000, 9, func(_ grower, f api.Fun) {
		first, answers := picture(f), ask(f)
		for block := range f.Blocks {
			spoil(flow.Next(f, block), -7)
		}
		ahead := flow.Ahead(f)
		for block := range ahead {
			spoil(ahead[block], -7)
			for behind := block + 1; behind < len(ahead); behind++ {
				if want := plainAhead(f, behind); !slices.Equal(ahead[behind], want) {
					t.Fatalf("the rows of %d and %d share memory", block, behind)
				}
			}
		}
		spoil(ahead, []int{-7})
		spoil(flow.Reached(f), true)
		spoil(flow.Order(f), -7)
		spoil(flow.Where(f), -7)
		spoil(flow.Back(f), [2]int{-7, -7})
		if picture(f) != first || ask(f) != answers {
			t.Fatalf("%s hangs on its answers", first)
		}
	})
}
