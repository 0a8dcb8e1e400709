package place_test

import (
	"fmt"
	"math"
	"slices"
	"testing"

	"bolthole/api"
	"bolthole/place"
)

func edge(from, to, count int) api.Edge { return api.Edge{From: from, To: to, Count: count} }

// checks: the edges, between so many blocks, are such.
func checks(t *testing.T, l []api.Edge, blocks int, want api.Errno) {
	t.Helper()
	if e := place.CheckEdges(l, blocks); e != want {
		t.Errorf("CheckEdges(%v, %d) = %v, want %v", l, blocks, e, want)
	}
}

// P6.1: edges that may be.
func TestCheckEdges(t *testing.T) {
	checks(t, nil, 0, api.OK)
	checks(t, []api.Edge{}, 5, api.OK)
	checks(t, nil, -1, api.OK)
	checks(t, []api.Edge{edge(0, 0, 1)}, 1, api.OK)
	checks(t, []api.Edge{edge(4, 4, api.MaxCount)}, 5, api.OK)
	checks(t, []api.Edge{edge(0, 1, 9), edge(0, 2, 1), edge(1, 0, 9), edge(1, 1, 1), edge(3, 0, 5)}, 4, api.OK)
	checks(t, []api.Edge{edge(7, 7, 1)}, math.MaxInt, api.OK)
	checks(t, []api.Edge{edge(math.MaxInt-1, math.MaxInt-1, 1)}, math.MaxInt, api.OK)
}

// P6.1: places and Counts that may not be, alone, ahead of others and behind them.
func TestCheckEdgesRange(t *testing.T) {
	for _, e := range []api.Edge{
		edge(-1, 2, 1), edge(4, 2, 1), edge(math.MinInt, 2, 1), edge(math.MaxInt, 2, 1),
		edge(2, -1, 1), edge(2, 4, 1), edge(2, math.MinInt, 1), edge(2, math.MaxInt, 1),
		edge(2, 2, 0), edge(2, 2, -1), edge(2, 2, api.MaxCount+1), edge(2, 2, math.MinInt), edge(2, 2, math.MaxInt),
	} {
		checks(t, []api.Edge{e}, 4, api.ErrRange)
		checks(t, []api.Edge{e, edge(3, 3, 1)}, 4, api.ErrRange)
		checks(t, []api.Edge{edge(0, 0, 1), e}, 4, api.ErrRange)
		checks(t, []api.Edge{edge(0, 0, 1), e, edge(3, 3, 1)}, 4, api.ErrRange)
	}
	for _, blocks := range []int{0, -1, math.MinInt} {
		checks(t, []api.Edge{edge(0, 0, 1)}, blocks, api.ErrRange)
		checks(t, []api.Edge{edge(blocks, blocks, 1)}, blocks, api.ErrRange)
	}
}

// P6.1: edges that do not stand in order, or twice.
func TestCheckEdgesOrder(t *testing.T) {
	for _, l := range [][]api.Edge{
		{edge(1, 0, 1), edge(0, 0, 1)},
		{edge(1, 0, 1), edge(0, 3, 1)},
		{edge(1, 2, 1), edge(1, 1, 1)},
		{edge(1, 2, 1), edge(1, 2, 1)},
		{edge(1, 2, 1), edge(1, 2, 2)},
		{edge(0, 0, 1), edge(1, 0, 1), edge(2, 1, 1), edge(2, 1, 1)},
		{edge(3, 0, 1), edge(2, 0, 1), edge(3, 3, 1)},
	} {
		checks(t, l, 4, api.ErrOrder)
	}
}

// P6.1: the edges are looked at one by one, and of one the numbers ahead of the order.
func TestCheckEdgesOneByOne(t *testing.T) {
	checks(t, []api.Edge{edge(1, 0, 1), edge(0, 0, 1), edge(9, 9, 9)}, 4, api.ErrOrder)
	checks(t, []api.Edge{edge(1, 0, 0), edge(0, 0, 1)}, 4, api.ErrRange)
	checks(t, []api.Edge{edge(1, 0, 1), edge(0, 0, 0)}, 4, api.ErrRange)
	checks(t, []api.Edge{edge(1, 0, 1), edge(0, 4, 1)}, 4, api.ErrRange)
	checks(t, []api.Edge{edge(1, 0, 1), edge(-1, 0, 1)}, 4, api.ErrRange)
}

// slowCheck: what the chapter says of the edges.
func slowCheck(l []api.Edge, blocks int) api.Errno {
	places := make([]int, max(blocks, 0))
	for n := range places {
		places[n] = n
	}
	for k, e := range l {
		if !slices.Contains(places, e.From) || !slices.Contains(places, e.To) || e.Count < 1 || e.Count > api.MaxCount {
			return api.ErrRange
		}
		if k == 0 {
			continue
		}
		if e.From < l[k-1].From || e.From == l[k-1].From && e.To <= l[k-1].To {
			return api.ErrOrder
		}
	}
	return api.OK
}

// P6.1: all lists of up to three of some edges.
func TestCheckEdgesAll(t *testing.T) {
	var some []api.Edge
	for from := -1; from <= 2; from++ {
		for to := -1; to <= 2; to++ {
			for _, count := range []int{0, 1, api.MaxCount, api.MaxCount + 1} {
				some = append(some, edge(from, to, count))
			}
		}
	}
	for _, a := range some {
		for _, b := range some {
			for _, l := range [][]api.Edge{{a}, {a, b}, {edge(0, 1, 1), a, b}, {a, b, edge(1, 1, 1)}} {
				for blocks := -1; blocks <= 4; blocks++ {
					checks(t, l, blocks, slowCheck(l, blocks))
				}
			}
		}
	}
}

// P6.1: the edges are not changed.
func TestCheckEdgesMemory(t *testing.T) {
	full := []api.Edge{edge(2, 0, 1), edge(1, 0, 2), edge(0, 0, 3)}
	was := fmt.Sprint(full)
	checks(t, full[:2], 4, api.ErrOrder)
	if got := fmt.Sprint(full); got != was {
		t.Errorf("the edges are %s, want %s", got, was)
	}
}
