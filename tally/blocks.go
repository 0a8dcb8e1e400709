package tally

import (
	"cmp"
	"slices"

	"bolthole/api"
	"bolthole/flow"
)

// way from a block to a block, by their places.
type way struct {
	from int
	to   int
}

// placed: edges of addresses as edges of blocks' places, without those whose addresses are not such of blocks.
func placed(blocks []api.Block, l []api.Edge) []api.Edge {
	ends, starts := endings(blocks), beginnings(blocks)
	var between []api.Edge
	for _, e := range l {
		from, okFrom := ends[e.From]
		to, okTo := starts[e.To]
		if okFrom && okTo {
			between = append(between, api.Edge{From: from, To: to, Count: e.Count})
		}
	}
	return between
}

// endings: the places of blocks by the last ones of their addresses; of several blocks the last one counts.
func endings(blocks []api.Block) map[int]int {
	places := map[int]int{}
	for n, b := range blocks {
		if len(b.At) > 0 {
			places[b.At[len(b.At)-1]] = n
		}
	}
	return places
}

// beginnings: the places of blocks by where they begin; of several blocks the last one counts.
func beginnings(blocks []api.Block) map[int]int {
	places := map[int]int{}
	for n, b := range blocks {
		places[b.Start] = n
	}
	return places
}

// summed: edges, one for each way that was gone, in order.
func summed(l []api.Edge) []api.Edge {
	counts := map[way]int{}
	for _, e := range l {
		w := way{from: e.From, to: e.To}
		counts[w] = min(counts[w]+e.Count, api.MaxCount)
	}
	var sums []api.Edge
	for w, count := range counts {
		if count > 0 {
			sums = append(sums, api.Edge{From: w.from, To: w.to, Count: count})
		}
	}
	slices.SortFunc(sums, func(a, b api.Edge) int {
		return cmp.Or(cmp.Compare(a.From, b.From), cmp.Compare(a.To, b.To))
	})
	return sums
}

// fitting: those edges, of some in order, on which the flow may go.
func fitting(f api.Flow, l []api.Edge) []api.Edge {
	var fits []api.Edge
	var nexts []int
	for k, e := range l {
		// Edges of one block stand together: so each block is asked but once.
		if k == 0 || e.From != l[k-1].From {
			nexts, _ = flow.Nexts(f, e.From)
		}
		if slices.Contains(nexts, e.To) {
			fits = append(fits, e)
		}
	}
	return fits
}
