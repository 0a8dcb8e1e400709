package place

import (
	"cmp"
	"slices"

	"bolthole/api"
)

// warm: blocks, one behind the other, those of a chain or of a function, and how hot they are together.
type warm struct {
	function int
	blocks   []int
	heat     int
}

// functions with their blocks in order, in the order in which they stood.
func functions(f api.Flow, c chains, heats []int) []warm {
	of := make([][]warm, len(f.Firsts))
	for n, b := range f.Blocks {
		if c.ahead[n] == none {
			of[b.Func] = append(of[b.Func], c.chainFrom(n, heats))
		}
	}
	all := make([]warm, len(of))
	for k, l := range of {
		all[k] = functionOf(k, l)
	}
	return all
}

// chainFrom: the chain that begins with a block.
func (c chains) chainFrom(n int, heats []int) warm {
	var w warm
	for ; n != none; n = c.behind[n] {
		w.blocks = append(w.blocks, n)
		w.heat += heats[n]
	}
	return w
}

// functionOf: a function of its chains, which stand in the order in which they stood.
func functionOf(n int, l []warm) warm {
	// Nothing joins a function's first block from ahead: so its chain is the first one, and stays there.
	hottestFirst(l[1:])
	w := warm{function: n}
	for _, c := range l {
		w.blocks = append(w.blocks, c.blocks...)
		w.heat += c.heat
	}
	return w
}

// hottestFirst: chains or functions by their heat; of those with the same one that one first which stands ahead.
func hottestFirst(l []warm) {
	slices.SortStableFunc(l, func(a, b warm) int { return cmp.Compare(b.heat, a.heat) })
}

// parts of functions, the hottest ones first.
func parts(l []warm) []api.Part {
	hottestFirst(l)
	var p []api.Part
	for _, w := range l {
		p = append(p, api.Part{Func: w.function, Blocks: w.blocks})
	}
	return p
}
