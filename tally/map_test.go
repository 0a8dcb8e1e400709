package tally_test

import (
	"fmt"
	"math"
	"reflect"
	"slices"
	"testing"

	"bolthole/api"
	"bolthole/flow"
	"bolthole/tally"
)

func edge(from, to, count int) api.Edge { return api.Edge{From: from, To: to, Count: count} }

// maps: by that flow the edges are these.
func maps(t *testing.T, what string, f api.Flow, l []api.Edge, want ...api.Edge) {
	t.Helper()
	if got, e := tally.Map(f, l); e != api.OK || !slices.Equal(got, want) {
		t.Errorf("%s: Map = %v, %v, want %v, OK", what, got, e, want)
	}
}

// unmapped: the edges are refused so.
func unmapped(t *testing.T, what string, f api.Flow, l []api.Edge, want api.Errno) {
	t.Helper()
	if got, e := tally.Map(f, l); e != want || len(got) != 0 {
		t.Errorf("%s: Map = %v, %v, want none, %v", what, got, e, want)
	}
}

// every edge between addresses from -2 to 30, as often as count says.
func every(count func(from, to int) int) []api.Edge {
	var l []api.Edge
	for from := 30; from >= -2; from-- {
		for to := 30; to >= -2; to-- {
			l = append(l, edge(from, to, count(from, to)))
		}
	}
	return l
}

// ways: a flow with each way to go on; its blocks begin at 0, 1, 6, 9, 12, 15, 16, 17, 18, 21.
func ways(t *testing.T) api.Flow {
	t.Helper()
	f, e := flow.Recover(api.Image{
		Text: []byte{
			3,       // 0: Nop; falls to 1
			0x41, 1, // 1: Out
			0x52, 0x12, 0xfe, // 3: Blt, to 1, or 6
			0x53, 0x12, 6, // 6: Bge, to 12, or 9
			0x63, 1, 0, // 9: Table 0: to 21, 0, 12
			0x61, 0xf5, 0xff, // 12: Jump, to 1
			0, 1, 2, // 15: Halt, Trap, Ret
			0x63, 1, 1, // 18: Table 1, without places
			0x63, 1, 2, // 21: Table 2, which is not there
		},
		Funcs:  []api.Func{{Name: "f", Size: 24}},
		Tables: [][]int{{21, 0, 12, 0}, {}},
	})
	if e != api.OK {
		t.Fatalf("Recover = %v", e)
	}
	return f
}

// P5.2: of all edges between addresses those fit on which a block may go on, from its last instruction to a Start.
func TestMapOfProgram(t *testing.T) {
	number := func(from, to int) int { return 100*(from+3) + to + 3 }
	maps(t, "all edges", ways(t), every(number),
		edge(0, 1, number(0, 1)),
		edge(1, 1, number(3, 1)), edge(1, 2, number(3, 6)),
		edge(2, 3, number(6, 9)), edge(2, 4, number(6, 12)),
		edge(3, 0, number(9, 0)), edge(3, 4, number(9, 12)), edge(3, 9, number(9, 21)),
		edge(4, 1, number(12, 1)),
	)
}

// P5.2: one reason at a time for which an edge does not fit.
func TestMapLeftOut(t *testing.T) {
	f := ways(t)
	maps(t, "one that fits", f, []api.Edge{edge(3, 6, 5)}, edge(1, 2, 5))
	for what, e := range map[string]api.Edge{
		"From is a Start":                   edge(1, 6, 5),
		"From is within an instruction":     edge(4, 6, 5),
		"From is behind the text":           edge(24, 6, 5),
		"From is below 0":                   edge(-1, 6, 5),
		"From is a block's place":           edge(2, 9, 5),
		"To is within a block":              edge(3, 3, 5),
		"To is within an instruction":       edge(3, 7, 5),
		"To is behind the text":             edge(3, 24, 5),
		"To is below 0":                     edge(3, -1, 5),
		"To is a block's place":             edge(3, 2, 5),
		"the block does not go on there":    edge(3, 9, 5),
		"it does so the other way round":    edge(6, 1, 5),
		"a Halt":                            edge(15, 16, 5),
		"a Trap":                            edge(16, 17, 5),
		"a Ret":                             edge(17, 18, 5),
		"a Table without places":            edge(18, 21, 5),
		"a Table that is not there":         edge(21, 0, 5),
		"a Table, to what is not one of it": edge(9, 1, 5),
		"numbers as great as may be":        edge(math.MaxInt, math.MaxInt, 5),
		"numbers as small as may be":        edge(math.MinInt, math.MinInt, 5),
		"a Count of 0":                      edge(3, 6, 0),
	} {
		maps(t, what, f, []api.Edge{e})
		maps(t, what+", beside one that fits", f, []api.Edge{e, edge(6, 12, 7), e}, edge(2, 4, 7))
	}
}

// P5.2: a Call ends no block, and leads to none; a Ret neither.
func TestMapCalls(t *testing.T) {
	f, e := flow.Recover(api.Image{
		Text:  []byte{0x62, 6, 0, 0x60, 0xfd, 0, 0x41, 1, 2}, // Call, Jump (back to the Call), Halt; Out, Ret
		Funcs: []api.Func{{Name: "f", Size: 6}, {Name: "g", Start: 6, Size: 3}},
	})
	if e != api.OK {
		t.Fatalf("Recover = %v", e)
	}
	maps(t, "Calls", f, every(func(from, to int) int { return 1 }), edge(0, 0, 1))
}

// P5.2: nothing of nothing.
func TestMapNothing(t *testing.T) {
	maps(t, "no edges, no blocks", api.Flow{}, nil)
	maps(t, "no edges", ways(t), nil)
	maps(t, "no edges", ways(t), []api.Edge{})
	maps(t, "no blocks", api.Flow{}, []api.Edge{edge(0, 0, 1), edge(3, 6, 5)})
	maps(t, "no blocks, but Tables", api.Flow{Tables: [][]int{{0}}, Firsts: []int{0}}, []api.Edge{edge(0, 0, 1)})
	maps(t, "an empty block", api.Flow{Blocks: []api.Block{{}}}, []api.Edge{edge(0, 0, 1)})
}

// P5.2: as many edges as may be, and more, whatever they are.
func TestMapSize(t *testing.T) {
	l := make([]api.Edge, api.MaxTally+1)
	for k := range l {
		l[k] = edge(3, 6, 1)
	}
	f := ways(t)
	maps(t, "as many as may be", f, l[:api.MaxTally], edge(1, 2, api.MaxTally))
	unmapped(t, "one more", f, l, api.ErrSize)
	unmapped(t, "one more, no blocks", api.Flow{}, l, api.ErrSize)
	unmapped(t, "one more, of zeros", f, make([]api.Edge, api.MaxTally+1), api.ErrSize)
	l[0].Count = -1
	unmapped(t, "a Count that may not be among one more", f, l, api.ErrSize)
	unmapped(t, "a Count that may not be", f, l[:api.MaxTally], api.ErrRange)
}

// P5.2: Counts that may not be, wherever they stand, and whether the edge fits or not.
func TestMapRange(t *testing.T) {
	f := ways(t)
	for _, count := range []int{-1, api.MaxCount + 1, -api.MaxCount, 2 * api.MaxCount, math.MinInt, math.MaxInt} {
		for _, e := range []api.Edge{edge(3, 6, count), edge(4, 6, count), edge(3, 9, count), edge(-1, 77, count), edge(15, 0, count)} {
			what := fmt.Sprint(e)
			unmapped(t, what, f, []api.Edge{e}, api.ErrRange)
			unmapped(t, what+", the first one", f, []api.Edge{e, edge(3, 6, 5)}, api.ErrRange)
			unmapped(t, what+", the last one", f, []api.Edge{edge(3, 6, 5), edge(3, 6, -count), e}, api.ErrRange)
			unmapped(t, what+", no blocks", api.Flow{}, []api.Edge{e}, api.ErrRange)
		}
	}
	maps(t, "as great as may be", f, []api.Edge{edge(3, 6, api.MaxCount)}, edge(1, 2, api.MaxCount))
	maps(t, "as small as may be", f, []api.Edge{edge(3, 6, 1), edge(3, 1, 0)}, edge(1, 2, 1))
}

// P5.2: Counts between the same two blocks are summed, but to MaxCount at most.
func TestMapSums(t *testing.T) {
	f := ways(t)
	const most = api.MaxCount
	for _, c := range []struct{ counts, want []int }{
		{[]int{1, 2, 3}, []int{6}},
		{[]int{0, 0, 0}, nil},
		{[]int{0, 4, 0}, []int{4}},
		{[]int{most - 1, 1}, []int{most}},
		{[]int{most - 2, 1}, []int{most - 1}},
		{[]int{most, 0}, []int{most}},
		{[]int{most, 1}, []int{most}},
		{[]int{1, most}, []int{most}},
		{[]int{most, most, most, 5}, []int{most}},
		{[]int{most / 2, most / 2}, []int{most}},
		{[]int{most / 2, most / 2, 1, 0}, []int{most}},
	} {
		var alone, mixed, want []api.Edge
		for _, n := range c.counts {
			alone = append(alone, edge(3, 6, n))
			mixed = append(mixed, edge(3, 1, 7), edge(3, 6, n), edge(4, 6, 99), edge(3, 9, 99))
		}
		for _, n := range c.want {
			want = append(want, edge(1, 2, n))
		}
		maps(t, fmt.Sprint(c.counts), f, alone, want...)
		maps(t, fmt.Sprint(c.counts, " among others"), f, mixed, append([]api.Edge{edge(1, 1, 7*len(c.counts))}, want...)...)
	}
	l := make([]api.Edge, api.MaxTally)
	for k := range l {
		l[k] = edge([]int{3, 6}[k%2], 6*(1+k%2), most)
	}
	maps(t, "as many as may be, as great as may be", f, l, edge(1, 2, most), edge(2, 4, most))
}

// P5.2: the edges stand in the order of From, then of To, whatever their Counts are and however they stood.
func TestMapOrder(t *testing.T) {
	f := ways(t)
	want := []api.Edge{edge(0, 1, 3), edge(1, 1, 9), edge(1, 2, 1), edge(2, 3, 8), edge(2, 4, 8), edge(3, 0, 5), edge(3, 4, 2), edge(3, 9, 7), edge(4, 1, 6)}
	l := []api.Edge{edge(0, 1, 3), edge(3, 1, 9), edge(3, 6, 1), edge(6, 9, 8), edge(6, 12, 8), edge(9, 0, 5), edge(9, 12, 2), edge(9, 21, 7), edge(12, 1, 6)}
	d := die(2)
	for range 200 {
		maps(t, "in any order", f, l, want...)
		for k := range l {
			j := d.n(k + 1)
			l[k], l[j] = l[j], l[k]
		}
	}
}

// P5.2: places, not addresses, are told and ordered, though a block ahead may have the greater address.
func TestMapPlaces(t *testing.T) {
	f := api.Flow{Blocks: []api.Block{
		{Start: 50, At: []int{50, 52}, Ends: api.Chance, To: 2, Else: 1},
		{Start: 20, At: []int{20, 25}, Ends: api.Jumps, To: 0},
		{Start: 10, At: []int{10}, Ends: api.Falls, To: 2},
	}}
	maps(t, "blocks that stand otherwise", f, []api.Edge{edge(10, 10, 1), edge(25, 50, 2), edge(52, 10, 3), edge(52, 20, 4)},
		edge(0, 1, 4), edge(0, 2, 3), edge(1, 0, 2), edge(2, 2, 1))
}

// P5.2: of several blocks that end, or begin, at one address the last one counts, and no other one, even if that goes on so and the last one does not.
func TestMapSeveral(t *testing.T) {
	block := func(start, end, ends, to int) api.Block {
		return api.Block{Start: start, At: []int{start, end}, Ends: ends, To: to}
	}
	l := []api.Edge{edge(5, 10, 3)}
	target, other := block(10, 15, api.Stops, 0), block(20, 25, api.Stops, 0)
	maps(t, "two end there", api.Flow{Blocks: []api.Block{block(0, 5, api.Falls, 2), block(1, 5, api.Falls, 2), target}}, l, edge(1, 2, 3))
	maps(t, "the last one does not go on so", api.Flow{Blocks: []api.Block{block(0, 5, api.Falls, 2), block(1, 5, api.Falls, 3), target, other}}, l)
	maps(t, "the last one stops", api.Flow{Blocks: []api.Block{block(0, 5, api.Falls, 2), block(1, 5, api.Stops, 2), target}}, l)
	maps(t, "only the last one goes on so", api.Flow{Blocks: []api.Block{block(0, 5, api.Stops, 0), target, block(1, 5, api.Jumps, 1)}}, l, edge(2, 1, 3))
	maps(t, "two begin there, to the last one", api.Flow{Blocks: []api.Block{block(0, 5, api.Falls, 2), target, target}}, l, edge(0, 2, 3))
	maps(t, "two begin there, to the first one", api.Flow{Blocks: []api.Block{block(0, 5, api.Falls, 1), target, target}}, l)
	chance := api.Block{At: []int{5}, Ends: api.Chance, To: 1, Else: 2}
	maps(t, "two begin there, to both", api.Flow{Blocks: []api.Block{chance, target, target}}, l, edge(0, 2, 3))
	maps(t, "two begin and end there, with one between", api.Flow{Blocks: []api.Block{block(10, 5, api.Jumps, 0), other, block(10, 5, api.Jumps, 2)}}, l, edge(2, 2, 3))
}

// P5.2: only the last one of the addresses counts, wherever that stands; a block without any ends nowhere, but begins.
func TestMapAddresses(t *testing.T) {
	f := api.Flow{Blocks: []api.Block{
		{Start: 7, At: []int{9, 3, 9, 1}, Ends: api.Chance, To: 1, Else: 0},
		{Start: 8, Ends: api.Jumps, To: 1},
		{Start: -4, At: []int{-9}, Ends: api.Falls, To: 2},
		{Start: math.MinInt, At: []int{math.MaxInt}, Ends: api.Falls, To: 3},
	}}
	maps(t, "not the greatest one, not the first one", f, []api.Edge{edge(9, 8, 1), edge(3, 7, 2), edge(7, 7, 4)})
	maps(t, "the last one", f, []api.Edge{edge(1, 8, 1), edge(1, 7, 2), edge(1, 9, 4)}, edge(0, 0, 2), edge(0, 1, 1))
	maps(t, "no address", f, []api.Edge{edge(8, 8, 1), edge(0, 8, 1)})
	maps(t, "an address below 0", f, []api.Edge{edge(-9, -4, 6), edge(-9, -9, 1), edge(-4, -4, 1)}, edge(2, 2, 6))
	maps(t, "the farthest addresses", f, []api.Edge{edge(math.MaxInt, math.MinInt, 6)}, edge(3, 3, 6))
}

// P5.2: how a block goes on is what P4.5 says, of a flow that is whatever it is.
func TestMapOfAnything(t *testing.T) {
	l := []api.Edge{edge(1, 10, 1), edge(1, 20, 2), edge(1, 30, 3)}
	with := func(b api.Block) api.Flow {
		b.Start, b.At = 10, []int{1}
		return api.Flow{Blocks: []api.Block{b, {Start: 20}, {Start: 30}}, Tables: [][]int{{-1, 2, 99, 1, 2, math.MinInt}, nil, {1}}}
	}
	named := func(n int) []api.Instr { return []api.Instr{{Kind: api.Nop}, {Kind: api.Table, N: n}} }
	for _, to := range []int{-1, 3, math.MinInt, math.MaxInt} {
		maps(t, fmt.Sprint("no such block ", to), with(api.Block{Ends: api.Falls, To: to}), l)
		maps(t, fmt.Sprint("no such block ", to), with(api.Block{Ends: api.Jumps, To: to, Else: 1, Code: named(0)}), l)
		maps(t, fmt.Sprint("no such block ", to), with(api.Block{Ends: api.Chance, To: to, Else: 1, Code: named(0)}), l, edge(0, 1, 2))
		maps(t, fmt.Sprint("no such Table ", to), with(api.Block{To: 1, Code: named(to)}), l)
	}
	for _, ends := range []int{api.Stops, 0, -1, 5, math.MinInt, math.MaxInt} {
		what := fmt.Sprint("Ends ", ends)
		maps(t, what, with(api.Block{Ends: ends, To: 1, Else: 2}), l)
		maps(t, what+", a Table", with(api.Block{Ends: ends, Code: named(0)}), l, edge(0, 1, 2), edge(0, 2, 3))
		maps(t, what+", an empty Table", with(api.Block{Ends: ends, Code: named(1)}), l)
		maps(t, what+", the last Table", with(api.Block{Ends: ends, To: 2, Code: named(2)}), l, edge(0, 1, 2))
		maps(t, what+", a Table ahead of the last one", with(api.Block{Ends: ends, Code: append(named(0), api.Instr{Kind: api.Nop})}), l)
	}
}

// P5.2: what is handed in is not changed, its spare room neither, and an answer is new memory.
func TestMapMemory(t *testing.T) {
	full := []api.Edge{edge(9, 21, 7), edge(3, 6, 1), edge(3, 6, 1), edge(3, 1, 9), edge(8, 8, 8), edge(9, 9, 9)}
	l, was := full[:4], slices.Clone(full)
	f := ways(t)
	f.Tables[0] = append(f.Tables[0], 77, 78)[:4]
	first, _ := tally.Map(f, l)
	second, _ := tally.Map(f, l)
	for k := range first[:cap(first)] {
		first[:cap(first)][k] = edge(99, 99, 99)
	}
	if !slices.Equal(full, was) {
		t.Errorf("the edges are %v, want %v", full, was)
	}
	unchanged := ways(t)
	if !reflect.DeepEqual(f, unchanged) || !slices.Equal(f.Tables[0][:6], []int{9, 0, 4, 0, 77, 78}) {
		t.Errorf("the flow is %v, want %v", f, unchanged)
	}
	if want := []api.Edge{edge(1, 1, 9), edge(1, 2, 2), edge(3, 9, 7)}; !slices.Equal(second, want) {
		t.Errorf("the second answer is %v, want %v", second, want)
	}
}
