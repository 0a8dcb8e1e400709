package place

import (
	"cmp"
	"slices"

	"bolthole/api"
)

// none: there is no such block.
const none = -1

// chains of blocks, one behind the other.
type chains struct {
	ahead  []int // for each block the one that stands ahead of it, or none
	behind []int // for each block the one that stands behind it, or none
	first  []int // for the last block of a chain the first one
	last   []int // for the first block of a chain the last one
}

// single: each block is a chain.
func single(blocks int) chains {
	c := chains{ahead: make([]int, blocks), behind: make([]int, blocks), first: make([]int, blocks), last: make([]int, blocks)}
	for n := range blocks {
		c.ahead[n], c.behind[n], c.first[n], c.last[n] = none, none, n, n
	}
	return c
}

// mayJoin: is from the last block of its chain, and to the first one of another chain?
func (c chains) mayJoin(from, to int) bool {
	return c.behind[from] == none && c.ahead[to] == none && c.first[from] != to
}

// joinAt: the chain of to stands behind that of from.
func (c chains) joinAt(from, to int) {
	c.behind[from], c.ahead[to] = to, from
	// Only the ends of a chain are kept right: so no chain need be gone through.
	first, last := c.first[from], c.last[to]
	c.first[last], c.last[first] = first, last
}

// join blocks to chains, by edges.
func join(f api.Flow, l []api.Edge) chains {
	c := single(len(f.Blocks))
	for _, e := range greatestFirst(l) {
		function := f.Blocks[e.To].Func
		if f.Blocks[e.From].Func == function && f.Firsts[function] != e.To && c.mayJoin(e.From, e.To) {
			c.joinAt(e.From, e.To)
		}
	}
	return c
}

// greatestFirst: edges by their Counts; of those with the same one that one first which stands ahead.
func greatestFirst(l []api.Edge) []api.Edge {
	l = slices.Clone(l)
	slices.SortStableFunc(l, func(a, b api.Edge) int { return cmp.Compare(b.Count, a.Count) })
	return l
}

// heats of blocks.
func heats(blocks int, l []api.Edge) []int {
	h := make([]int, blocks)
	for _, e := range l {
		h[e.From] += e.Count
	}
	return h
}
