package place_test

import (
	"math"
	"reflect"
	"slices"
	"testing"

	"bolthole/api"
	"bolthole/flow"
	"bolthole/place"
	"bolthole/tally"
)

func part(function int, blocks ...int) api.Part { return api.Part{Func: function, Blocks: blocks} }

// of: a flow of functions with so many blocks each.
func of(counts ...int) api.Flow {
	var f api.Flow
	for k, n := range counts {
		f.Firsts = append(f.Firsts, len(f.Blocks))
		for range n {
			f.Blocks = append(f.Blocks, api.Block{Func: k})
		}
	}
	return f
}

func same(a, b api.Part) bool { return a.Func == b.Func && slices.Equal(a.Blocks, b.Blocks) }

// orders: the parts of the flow are these.
func orders(t *testing.T, what string, f api.Flow, l []api.Edge, want ...api.Part) {
	t.Helper()
	if got, e := place.Order(f, l); e != api.OK || !slices.EqualFunc(got, want, same) {
		t.Errorf("%s: Order = %v, %v, want %v, OK", what, got, e, want)
	}
}

// unordered: the flow, or the edges, are refused so.
func unordered(t *testing.T, what string, f api.Flow, l []api.Edge, want api.Errno) {
	t.Helper()
	if got, e := place.Order(f, l); e != want || len(got) != 0 {
		t.Errorf("%s: Order = %v, %v, want none, %v", what, got, e, want)
	}
}

// P6.2: nothing of nothing; without edges all stands as it stood.
func TestOrderWithoutEdges(t *testing.T) {
	orders(t, "nothing", api.Flow{}, nil)
	orders(t, "nothing, but Tables", api.Flow{Tables: [][]int{{4}}}, []api.Edge{})
	orders(t, "one block", of(1), nil, part(0, 0))
	orders(t, "three functions", of(3, 1, 2), nil, part(0, 0, 1, 2), part(1, 3), part(2, 4, 5))
	orders(t, "three functions", of(3, 1, 2), []api.Edge{}, part(0, 0, 1, 2), part(1, 3), part(2, 4, 5))
}

// P6.2: one reason at a time for which a flow does not fit.
func TestOrderUnfit(t *testing.T) {
	orders(t, "one that fits", of(2, 3, 1), nil, part(0, 0, 1), part(1, 2, 3, 4), part(2, 5))
	for what, change := range map[string]func(f *api.Flow){
		"the first block's function is below 0":       func(f *api.Flow) { f.Blocks[0].Func = -1 },
		"the first block's function is 1":             func(f *api.Flow) { f.Blocks[0].Func = 1 },
		"the first function is 1":                     func(f *api.Flow) { f.Blocks[0].Func, f.Blocks[1].Func = 1, 1 },
		"the functions begin below 0":                 func(f *api.Flow) { f.Blocks[0].Func, f.Blocks[1].Func = -1, -1 },
		"a function below 0 in the middle":            func(f *api.Flow) { f.Blocks[3].Func = -1 },
		"a function below the one ahead":              func(f *api.Flow) { f.Blocks[3].Func = 0 },
		"a function that comes too early":             func(f *api.Flow) { f.Blocks[3].Func = 2 },
		"a function that is passed over":              func(f *api.Flow) { f.Blocks[5].Func = 3 },
		"the last function is not there":              func(f *api.Flow) { f.Blocks[5].Func = 1 },
		"a function as great as may be":               func(f *api.Flow) { f.Blocks[5].Func = math.MaxInt },
		"a function as small as may be":               func(f *api.Flow) { f.Blocks[5].Func = math.MinInt },
		"the first function, as small as may be":      func(f *api.Flow) { f.Blocks[0].Func = math.MinInt },
		"one of the Firsts is missing":                func(f *api.Flow) { f.Firsts = f.Firsts[:2] },
		"there are no Firsts":                         func(f *api.Flow) { f.Firsts = nil },
		"there is one more, of no block":              func(f *api.Flow) { f.Firsts = append(f.Firsts, 6) },
		"there is one more, of a block that is there": func(f *api.Flow) { f.Firsts = append(f.Firsts, 5) },
		"there are no blocks":                         func(f *api.Flow) { f.Blocks = nil },
		"the last block is missing":                   func(f *api.Flow) { f.Blocks = f.Blocks[:5] },
		"the first of the Firsts is 1":                func(f *api.Flow) { f.Firsts[0] = 1 },
		"the first of the Firsts is below 0":          func(f *api.Flow) { f.Firsts[0] = -1 },
		"one is a later block of its function":        func(f *api.Flow) { f.Firsts[1] = 3 },
		"one is a block of the function ahead":        func(f *api.Flow) { f.Firsts[1] = 1 },
		"one is no block's place":                     func(f *api.Flow) { f.Firsts[2] = 6 },
		"one is as great as may be":                   func(f *api.Flow) { f.Firsts[2] = math.MaxInt },
		"one is as small as may be":                   func(f *api.Flow) { f.Firsts[2] = math.MinInt },
		"two are the same":                            func(f *api.Flow) { f.Firsts[2] = 2 },
	} {
		f := of(2, 3, 1)
		change(&f)
		unordered(t, what, f, nil, api.ErrOrder)
		unordered(t, what+", with an edge", f, []api.Edge{edge(0, 1, 1)}, api.ErrOrder)
		unordered(t, what+", with an edge that may not be", f, []api.Edge{edge(0, 99, 1)}, api.ErrOrder)
	}
	unordered(t, "Firsts, and no block", api.Flow{Firsts: []int{0}}, nil, api.ErrOrder)
	unordered(t, "a block, and no Firsts", api.Flow{Blocks: []api.Block{{}}}, nil, api.ErrOrder)
	unordered(t, "a block below 0, and no Firsts", api.Flow{Blocks: []api.Block{{Func: -1}}}, nil, api.ErrOrder)
}

// P6.2: what else blocks say does not count.
func TestOrderOfAnything(t *testing.T) {
	f := of(3)
	f.Blocks[0] = api.Block{Start: -7, Ends: 99, To: math.MaxInt, Else: math.MinInt, At: []int{9, -9}, Code: []api.Instr{{Kind: api.Table, N: -1}}}
	f.Blocks[1] = api.Block{Ends: api.Stops}
	f.Tables = [][]int{nil, {-1, 99}}
	orders(t, "blocks that go on elsewhere", f, []api.Edge{edge(0, 2, 1), edge(2, 1, 1)}, part(0, 0, 2, 1))
}

// P6.2: edges that may not be, between the blocks that there are.
func TestOrderEdges(t *testing.T) {
	f := of(2, 2)
	orders(t, "the last block", f, []api.Edge{edge(3, 3, 1)}, part(1, 2, 3), part(0, 0, 1))
	unordered(t, "no such block", f, []api.Edge{edge(4, 3, 1)}, api.ErrRange)
	unordered(t, "no such block", f, []api.Edge{edge(3, 4, 1)}, api.ErrRange)
	unordered(t, "a block below 0", f, []api.Edge{edge(-1, 3, 1)}, api.ErrRange)
	unordered(t, "no Count", f, []api.Edge{edge(0, 1, 1), edge(0, 2, 0)}, api.ErrRange)
	unordered(t, "too great a Count", f, []api.Edge{edge(0, 1, api.MaxCount+1)}, api.ErrRange)
	unordered(t, "twice", f, []api.Edge{edge(0, 1, 1), edge(0, 1, 1)}, api.ErrOrder)
	unordered(t, "not in order", f, []api.Edge{edge(0, 1, 1), edge(0, 0, 1)}, api.ErrOrder)
	unordered(t, "not in order, then no such block", f, []api.Edge{edge(1, 1, 1), edge(0, 0, 1), edge(9, 9, 9)}, api.ErrOrder)
	unordered(t, "no blocks", api.Flow{}, []api.Edge{edge(0, 0, 1)}, api.ErrRange)
}

// P6.3: a block stands behind the one from which an edge leads to it.
func TestOrderChains(t *testing.T) {
	orders(t, "one edge", of(4), []api.Edge{edge(0, 2, 1)}, part(0, 0, 2, 1, 3))
	orders(t, "all turned round", of(4), []api.Edge{edge(0, 3, 1), edge(2, 1, 1), edge(3, 2, 1)}, part(0, 0, 3, 2, 1))
	orders(t, "two long chains as one", of(6), []api.Edge{edge(0, 4, 9), edge(2, 1, 8), edge(4, 5, 7), edge(5, 2, 1)}, part(0, 0, 4, 5, 2, 1, 3))
}

// P6.3: the edge with the greatest Count counts first, wherever it stands.
func TestOrderGreatestFirst(t *testing.T) {
	orders(t, "two to one block", of(3), []api.Edge{edge(0, 2, 5), edge(1, 2, 4)}, part(0, 0, 2, 1))
	orders(t, "two to one block", of(3), []api.Edge{edge(0, 2, 4), edge(1, 2, 5)}, part(0, 0, 1, 2))
	orders(t, "two from one block", of(4), []api.Edge{edge(0, 2, 4), edge(0, 3, 5)}, part(0, 0, 3, 1, 2))
	orders(t, "two from one block", of(4), []api.Edge{edge(0, 2, 5), edge(0, 3, 4)}, part(0, 0, 2, 1, 3))
	orders(t, "as great as may be", of(4), []api.Edge{edge(0, 2, api.MaxCount-1), edge(0, 3, api.MaxCount)}, part(0, 0, 3, 1, 2))
}

// P6.3: of edges with the same Count that one counts first which stands ahead.
func TestOrderSameCount(t *testing.T) {
	orders(t, "two from one block", of(4), []api.Edge{edge(0, 2, 5), edge(0, 3, 5)}, part(0, 0, 2, 1, 3))
	orders(t, "two to one block", of(4), []api.Edge{edge(1, 3, 5), edge(2, 3, 5)}, part(0, 0, 1, 3, 2))
	orders(t, "round about", of(3), []api.Edge{edge(1, 2, 5), edge(2, 1, 5)}, part(0, 0, 1, 2))
	orders(t, "round about, the other way", of(3), []api.Edge{edge(1, 2, 5), edge(2, 1, 6)}, part(0, 0, 2, 1))
	// So many that a sort that does not keep them as they stood would be seen: each odd block has two edges, and the one ahead leads to the next block.
	var l []api.Edge
	want := []int{0}
	for n := 1; n < 80; n += 2 {
		l = append(l, edge(n, n+1, 1))
		if n+3 <= 80 {
			l = append(l, edge(n, n+3, 1))
		}
		want = append(want, n, n+1)
	}
	// The last one of them has but one edge, and so is colder than the others: it stands last anyway.
	orders(t, "many with the same Count", of(81), l, part(0, want...))
}

// P6.3: one reason at a time for which two chains do not become one.
func TestOrderNotJoined(t *testing.T) {
	orders(t, "From is not the last one of its chain", of(5), []api.Edge{edge(2, 3, 1), edge(2, 4, 9)}, part(0, 0, 2, 4, 1, 3))
	orders(t, "To is not the first one of its chain", of(5), []api.Edge{edge(2, 4, 9), edge(3, 4, 1)}, part(0, 0, 2, 4, 3, 1))
	orders(t, "to itself", of(3), []api.Edge{edge(2, 2, 9)}, part(0, 0, 2, 1))
	orders(t, "round about in two", of(3), []api.Edge{edge(1, 2, 9), edge(2, 1, 8)}, part(0, 0, 1, 2))
	orders(t, "round about in three", of(4), []api.Edge{edge(1, 3, 9), edge(2, 1, 5), edge(3, 2, 8)}, part(0, 0, 1, 3, 2))
	orders(t, "to the first block", of(3), []api.Edge{edge(2, 0, 9)}, part(0, 0, 2, 1))
	orders(t, "to the first block of a later function", of(1, 3), []api.Edge{edge(3, 1, 9)}, part(1, 1, 3, 2), part(0, 0))
	orders(t, "to another function", of(2, 2), []api.Edge{edge(0, 3, 9)}, part(0, 0, 1), part(1, 2, 3))
	orders(t, "to a function ahead", of(2, 2), []api.Edge{edge(3, 1, 9)}, part(1, 2, 3), part(0, 0, 1))
	orders(t, "to a function's first block", of(2, 2), []api.Edge{edge(1, 2, 9)}, part(0, 0, 1), part(1, 2, 3))
}

// P6.3: an edge that did not join its blocks does not do so later on, though another one makes room.
func TestOrderOnce(t *testing.T) {
	orders(t, "2 is taken, and stays so", of(5), []api.Edge{edge(1, 2, 9), edge(3, 2, 8), edge(4, 1, 7)}, part(0, 0, 4, 1, 2, 3))
}

// P6.3: chains are counted by where the one stood that is ahead in them, though that has the greater place.
func TestOrderPlaceOfChain(t *testing.T) {
	// The chains {2}, {3} and {4, 1}, all of them with the same heat: the last one is counted by 4.
	orders(t, "a chain from behind", of(5), []api.Edge{edge(2, 0, 6), edge(3, 0, 6), edge(4, 1, 6)}, part(0, 0, 2, 3, 4, 1))
	orders(t, "a chain from ahead", of(5), []api.Edge{edge(1, 4, 6), edge(2, 0, 6), edge(3, 0, 6)}, part(0, 0, 1, 4, 2, 3))
	orders(t, "a chain of three", of(6), []api.Edge{edge(1, 2, 2), edge(3, 0, 6), edge(4, 1, 4), edge(5, 0, 6)}, part(0, 0, 3, 4, 1, 2, 5))
}

// P6.4: the chain of the first block stands first, however cold it is; then the hottest ones.
func TestOrderHeat(t *testing.T) {
	orders(t, "the first block is cold", of(4), []api.Edge{edge(1, 0, 1), edge(2, 0, 3), edge(3, 0, 2)}, part(0, 0, 2, 3, 1))
	orders(t, "all edges of a block count", of(5), []api.Edge{edge(1, 0, 2), edge(2, 0, 5), edge(4, 0, 2), edge(4, 1, 2), edge(4, 4, 2)}, part(0, 0, 4, 1, 2, 3))
	orders(t, "edges to a block do not count", of(4), []api.Edge{edge(0, 0, 9), edge(2, 0, 1)}, part(0, 0, 2, 1, 3))
	orders(t, "those to other functions do", of(3, 1), []api.Edge{edge(1, 0, 1), edge(2, 3, 2)}, part(0, 0, 2, 1), part(1, 3))
	orders(t, "all blocks of a chain count", of(6), []api.Edge{edge(1, 0, 5), edge(2, 3, 3), edge(3, 0, 3), edge(4, 5, 5), edge(5, 0, 2)}, part(0, 0, 4, 5, 2, 3, 1))
	orders(t, "edges within a chain count", of(4), []api.Edge{edge(1, 0, 2), edge(2, 0, 1), edge(2, 3, 2)}, part(0, 0, 2, 3, 1))
	orders(t, "the last block of the first chain is hottest", of(4), []api.Edge{edge(0, 3, 1), edge(2, 0, 5), edge(3, 0, 99)}, part(0, 0, 3, 2, 1))
}

// P6.4: of chains with the same heat that one stands first which was ahead, among many of them, too.
func TestOrderSameHeat(t *testing.T) {
	orders(t, "two and none", of(5), []api.Edge{edge(2, 0, 4), edge(4, 0, 4)}, part(0, 0, 2, 4, 1, 3))
	var l []api.Edge
	hot, warm, cold := []int{}, []int{}, []int{}
	for n := 1; n <= 90; n++ {
		switch n % 3 {
		case 0:
			l, hot = append(l, edge(n, 0, 7)), append(hot, n)
		case 1:
			l, warm = append(l, edge(n, 0, 3), edge(n, n, 3)), append(warm, n)
		default:
			cold = append(cold, n)
		}
	}
	orders(t, "many", of(91), l, part(0, slices.Concat([]int{0}, hot, warm, cold)...))
}

// P6.4: sums of heat go beyond MaxCount.
func TestOrderGreatHeat(t *testing.T) {
	const most = api.MaxCount
	orders(t, "blocks", of(4), []api.Edge{edge(1, 0, most), edge(1, 1, 1), edge(2, 0, most), edge(2, 2, 2), edge(3, 0, most), edge(3, 3, most)}, part(0, 0, 3, 2, 1))
	orders(t, "functions", of(2, 2, 2), []api.Edge{edge(0, 0, most), edge(1, 0, most), edge(2, 2, most), edge(3, 2, most), edge(3, 3, 1), edge(5, 4, most)}, part(1, 2, 3), part(0, 0, 1), part(2, 4, 5))
	var l []api.Edge
	for from := 50; from < 100; from++ {
		for to := range 100 {
			l = append(l, edge(from, to, most))
		}
	}
	f := of(50, 1, 49)
	parts, e := place.Order(f, l)
	if e != api.OK || len(parts) != 3 || parts[0].Func != 2 || parts[1].Func != 1 || parts[2].Func != 0 {
		t.Errorf("many of the greatest ones: Order = %v, %v", parts, e)
	}
}

// P6.5: functions stand by the heat of all their blocks, the first one too; of those with the same heat as they stood.
func TestOrderFunctions(t *testing.T) {
	orders(t, "by heat", of(1, 1, 1), []api.Edge{edge(0, 0, 2), edge(1, 1, 1), edge(2, 2, 3)}, part(2, 2), part(0, 0), part(1, 1))
	orders(t, "the same heat", of(1, 1, 1, 1), []api.Edge{edge(1, 1, 4), edge(3, 3, 4)}, part(1, 1), part(3, 3), part(0, 0), part(2, 2))
	orders(t, "all blocks count", of(1, 3, 1), []api.Edge{edge(0, 0, 5), edge(1, 1, 2), edge(2, 1, 2), edge(3, 1, 2), edge(4, 4, 5)}, part(1, 1, 2, 3), part(0, 0), part(2, 4))
	orders(t, "only edges From count", of(1, 1), []api.Edge{edge(1, 0, 5)}, part(1, 1), part(0, 0))
	counts := make([]int, 60)
	for k := range counts {
		counts[k] = 1
	}
	var l []api.Edge
	var hot, cold []api.Part
	for n := range counts {
		if n%2 == 1 {
			l, hot = append(l, edge(n, 0, 8)), append(hot, part(n, n))
		} else {
			cold = append(cold, part(n, n))
		}
	}
	orders(t, "many", of(counts...), l, slices.Concat(hot, cold)...)
}

// P6.2 to P6.5: the document's loop: its head branches to the end, or jumps over that to its body, which jumps back.
func TestOrderOfLoop(t *testing.T) {
	f, e := flow.Recover(api.Image{
		Text: []byte{
			0x10, 1, 2, 0, // 0: Li
			0x50, 0x10, 5, // 4: the head: Beq, to the end
			0x60, 3, // 7: Jump, to the body
			0,       // 9: the end: Halt
			0x41, 1, // 10: the body: Out
			0x11, 0x11, 0xff, // 12: Addi
			0x60, 0xf5, // 15: Jump, to the head
		},
		Funcs: []api.Func{{Name: "f", Size: 17}},
	})
	if e != api.OK {
		t.Fatalf("Recover = %v", e)
	}
	l, e := tally.Read("0 4 1\n4 7 2\n7 10 2\n15 4 2\n4 9 1\n")
	if e != api.OK {
		t.Fatalf("Read = %v", e)
	}
	l, e = tally.Map(f, l)
	if e != api.OK {
		t.Fatalf("Map = %v", e)
	}
	orders(t, "the loop", f, l, part(0, 0, 1, 2, 4, 3))
	orders(t, "the loop, without edges", f, nil, part(0, 0, 1, 2, 3, 4))
}

// P6.2: what is handed in is not changed, its spare room neither, and an answer is new memory, of which no two lists share any.
func TestOrderMemory(t *testing.T) {
	full := []api.Edge{edge(1, 2, 1), edge(2, 0, 3), edge(4, 4, 2), edge(8, 8, 8)}
	l, was := full[:3], slices.Clone(full)
	f := of(3, 2, 1)
	f.Firsts = append(f.Firsts, 77)[:3]
	first, e := place.Order(f, l)
	if e != api.OK {
		t.Fatalf("Order = %v", e)
	}
	for k, p := range first {
		whole := p.Blocks[:cap(p.Blocks)]
		for j := range whole {
			whole[j] = 99
		}
		first[k].Blocks = append(p.Blocks[:0], slices.Repeat([]int{k}, cap(p.Blocks))...)
	}
	for k, p := range first {
		for _, n := range p.Blocks {
			if n != k {
				t.Errorf("lists of one answer share memory: %v", first)
			}
		}
	}
	orders(t, "once more", f, l, part(0, 0, 1, 2), part(1, 3, 4), part(2, 5))
	if !slices.Equal(full, was) {
		t.Errorf("the edges are %v, want %v", full, was)
	}
	if !reflect.DeepEqual(f, of(3, 2, 1)) || f.Firsts[:4][3] != 77 {
		t.Errorf("the flow is %v, want %v", f, of(3, 2, 1))
	}
}
