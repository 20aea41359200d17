package dom

import (
	"slices"

	"truant/api"
	"truant/flow"
)

// tree is a walk through the blocks that are reached, in depth first. A block
// goes by its number, which is where it stands in the walk: whoever is above
// another one in the tree has a lower number, and what leads from a lower to
// a higher number leads down the tree.
type tree struct {
	blocks []int // of each number its block
	number []int // of each block its number, or -1
	parent []int // of each number that of the one from which the walk came
}

// step is a way that the walk hasn't gone: from a number to a block.
type step struct {
	from, to int
}

// walked: the walk of a function.
func walked(f api.Fun) tree {
	t := tree{number: nobody(len(f.Blocks))}
	if len(f.Blocks) == 0 {
		return t
	}
	left := []step{{-1, 0}}
	for len(left) > 0 {
		last := left[len(left)-1]
		left = left[:len(left)-1]
		if t.number[last.to] != -1 {
			continue
		}
		at := len(t.blocks)
		t.number[last.to] = at
		t.blocks = append(t.blocks, last.to)
		t.parent = append(t.parent, last.from)
		for _, to := range flow.Next(f, last.to) {
			left = append(left, step{at, to})
		}
	}
	return t
}

// search finds the nearest ones as Lengauer and Tarjan do: going round till
// nothing changes would take too long where loops have many ways in.
//
// The high one of a number is the least from which a way leads to it over
// none but greater numbers. Numbers that are done hang together by up; best
// is, of those hung up from a number on, the one whose high one is least.
type search struct {
	tree
	ahead [][]int // of each number those of its ones ahead
	high  []int
	up    []int
	best  []int
}

func newSearch(f api.Fun, t tree) *search {
	many := len(t.blocks)
	s := &search{tree: t, ahead: make([][]int, many), high: make([]int, many), up: nobody(many), best: make([]int, many)}
	for at := range many {
		s.high[at], s.best[at] = at, at
	}
	for block, ahead := range flow.Ahead(f) {
		for _, from := range ahead {
			// Nobody who isn't reached is on a way.
			if at := t.number[from]; at != -1 {
				s.ahead[t.number[block]] = append(s.ahead[t.number[block]], at)
			}
		}
	}
	return s
}

// nearest: of each number that of its nearest one, or -1.
func (s *search) nearest() []int {
	nearest := nobody(len(s.blocks))
	waiting := make([][]int, len(s.blocks))
	for at := len(s.blocks) - 1; at > 0; at-- {
		for _, from := range s.ahead[at] {
			s.high[at] = min(s.high[at], s.high[s.lowest(from)])
		}
		waiting[s.high[at]] = append(waiting[s.high[at]], at)
		parent := s.parent[at]
		s.up[at] = parent
		for _, other := range waiting[parent] {
			nearest[other] = s.lowest(other)
			if s.high[nearest[other]] == parent {
				nearest[other] = parent
			}
		}
		waiting[parent] = nil
	}
	// Where another one's high one was lower, both have the same nearest one;
	// it has a lower number, and so is known by now.
	for at := 1; at < len(nearest); at++ {
		if nearest[at] != s.high[at] {
			nearest[at] = nearest[nearest[at]]
		}
	}
	return nearest
}

// lowest: of those from a number up, below the one where its hanging ends,
// the one whose high one is least. All of them are hung up right below that
// end, so that no way up is gone twice.
func (s *search) lowest(number int) int {
	var way []int
	for at := number; s.up[at] != -1 && s.up[s.up[at]] != -1; at = s.up[at] {
		way = append(way, at)
	}
	for _, at := range slices.Backward(way) {
		above := s.up[at]
		if s.high[s.best[above]] < s.high[s.best[at]] {
			s.best[at] = s.best[above]
		}
		s.up[at] = s.up[above]
	}
	return s.best[number]
}
