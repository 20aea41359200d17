package dom

import (
	"truant/api"
	"truant/flow"
)

// gathering finds fronts of fronts without a row of each block's front, since
// these may be long where loops stand within loops. Who leads out of what a
// block dominates is told by depth alone: a next one is in its front if it
// stands no deeper than the block itself.
type gathering struct {
	f       api.Fun
	under   [][]int
	depth   []int   // of each block how many others dominate it, or -1
	rows    [][]int // of each depth whose fronts are asked for
	isSeen  []bool
	isFound []bool
}

// Fronts: of some blocks, and of all that is found.
func Fronts(f api.Fun, blocks []int) []int {
	g := newGathering(f)
	for _, block := range blocks {
		if block >= 0 && block < len(g.depth) && g.depth[block] != -1 {
			g.put(block)
		}
	}
	// The deepest come first: where the ways lead out of one above them, out
	// of what they dominate, is found by then, so nobody is looked at twice.
	for depth := len(g.rows) - 1; depth >= 0; depth-- {
		for at := 0; at < len(g.rows[depth]); at++ {
			g.leave(g.rows[depth][at])
		}
	}
	var fronts []int
	for block, is := range g.isFound {
		if is {
			fronts = append(fronts, block)
		}
	}
	return fronts
}

func newGathering(f api.Fun) *gathering {
	many := len(f.Blocks)
	nearest := Nearest(f)
	g := &gathering{f: f, under: under(nearest), depth: nobody(many), rows: make([][]int, many)}
	g.isSeen, g.isFound = make([]bool, many), make([]bool, many)
	// A block's nearest one stands ahead of it in the order.
	for _, block := range flow.Order(f) {
		g.depth[block] = 0
		if above := nearest[block]; above != -1 {
			g.depth[block] = g.depth[above] + 1
		}
	}
	return g
}

// put lays a block to those of its depth; whoever lies there twice is looked
// at once.
func (g *gathering) put(block int) {
	depth := g.depth[block]
	g.rows[depth] = append(g.rows[depth], block)
}

// leave finds those to which the ways lead out of what a block dominates.
func (g *gathering) leave(block int) {
	left := []int{block}
	for len(left) > 0 {
		at := left[len(left)-1]
		left = left[:len(left)-1]
		if g.isSeen[at] {
			continue
		}
		g.isSeen[at] = true
		for _, to := range flow.Next(g.f, at) {
			if g.depth[to] <= g.depth[block] {
				g.isFound[to] = true
				g.put(to)
			}
		}
		left = append(left, g.under[at]...)
	}
}
