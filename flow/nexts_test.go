package flow_test

import (
	"fmt"
	"math"
	"slices"
	"testing"

	"bolthole/api"
	"bolthole/flow"
)

// goes: the block of that flow goes on to these.
func goes(t *testing.T, what string, f api.Flow, n int, want ...int) {
	t.Helper()
	if got, e := flow.Nexts(f, n); e != api.OK || !slices.Equal(got, want) {
		t.Errorf("%s: Nexts = %v, %v, want %v", what, got, e, want)
	}
}

// P4.5: there is no such block.
func TestNextsNone(t *testing.T) {
	loop := recovered(t, "loop", program(nop, halt, jump(0)))
	for _, f := range []api.Flow{{}, {Tables: [][]int{{1, 2}}, Firsts: []int{0, 1}}, loop} {
		for _, n := range []int{-1, len(f.Blocks), len(f.Blocks) + 1, math.MinInt, math.MaxInt} {
			if l, e := flow.Nexts(f, n); e != api.ErrNone || len(l) != 0 {
				t.Errorf("Nexts of block %d of %d = %v, %v, want none, %v", n, len(f.Blocks), l, e, api.ErrNone)
			}
		}
	}
}

// P4.5: the blocks of a program, each with its own way to go on.
func TestNextsOfProgram(t *testing.T) {
	m := program(
		nop,                       // 0: falls to 1
		out(1),                    // 1
		branch(api.Blt, 1, 2, -2), // 3: to 1, or 6
		branch(api.Bge, 1, 2, 6),  // 6: to 12, or 9
		table(1, 0),               // 9
		long(jump(-11)),           // 12: to 1
		halt, trap, ret,           // 15
		table(1, 1), table(1, 2), // 18, 21
	)
	f := recovered(t, "program", withTables(m, []int{21, 0, 12, 0, 21}, []int{}))
	for n, want := range [][]int{{1}, {1, 2}, {3, 4}, {0, 4, 9}, {1}, {}, {}, {}, {}, {}} {
		goes(t, fmt.Sprint("block ", n), f, n, want...)
	}
}

// P4.5: each once, in their order, however they stand.
func TestNextsOrder(t *testing.T) {
	chance := func(to, other int) api.Flow {
		return api.Flow{Blocks: []api.Block{{Ends: api.Chance, To: to, Else: other}}}
	}
	goes(t, "upwards", chance(2, 5), 0, 2, 5)
	goes(t, "downwards", chance(5, 2), 0, 2, 5)
	goes(t, "the same", chance(4, 4), 0, 4)
	tabled := api.Flow{
		Blocks: []api.Block{{Ends: api.Stops, Code: []api.Instr{nop, table(0, 1)}}},
		Tables: [][]int{{1}, {7, 3, 3, 9, 7, 0, 3}},
	}
	goes(t, "a Table", tabled, 0, 0, 3, 7, 9)
}

// P4.5: a flow may be whatever it is: places of no blocks are told as they stand.
func TestNextsOfAnything(t *testing.T) {
	tables := [][]int{{math.MaxInt, -1, math.MinInt, -1}, nil, {4}}
	code := func(l ...api.Instr) api.Block { return api.Block{Code: l, To: 8, Else: 9} }
	with := func(b api.Block, ends int) api.Flow {
		b.Ends = ends
		return api.Flow{Blocks: []api.Block{{}, b}, Tables: tables}
	}
	wild := api.Block{To: math.MinInt, Else: -7, Code: []api.Instr{table(0, 2)}}
	goes(t, "Falls", with(wild, api.Falls), 1, math.MinInt)
	goes(t, "Jumps", with(wild, api.Jumps), 1, math.MinInt)
	goes(t, "Chance", with(wild, api.Chance), 1, math.MinInt, -7)
	for _, ends := range []int{api.Stops, 0, -1, 5, math.MinInt, math.MaxInt} {
		what := fmt.Sprint("Ends ", ends)
		goes(t, what+", a Table", with(code(nop, table(0, 2)), ends), 1, 4)
		goes(t, what+", a Table that may not be", with(code(api.Instr{Kind: api.Table, D: 99, A: -5, B: 7, N: 2, Long: true}), ends), 1, 4)
		goes(t, what+", a Table of wild places", with(code(table(0, 0)), ends), 1, math.MinInt, -1, math.MaxInt)
		goes(t, what+", an empty Table", with(code(table(0, 1)), ends), 1)
		goes(t, what+", a Table ahead of the last one", with(code(table(0, 2), nop), ends), 1)
		goes(t, what+", no Table", with(code(nop, api.Instr{Kind: api.Li, N: 2}), ends), 1)
		goes(t, what+", no Code", with(code(), ends), 1)
		for _, n := range []int{-1, 3, 20, math.MinInt, math.MaxInt} {
			goes(t, fmt.Sprint(what, ", Table ", n), with(code(table(0, n)), ends), 1)
		}
	}
}

// P4.5: what is handed in is not changed, its spare room neither, and an answer is new memory.
func TestNextsMemory(t *testing.T) {
	list := []int{5, 3, 3, 1, 8, 7}
	f := api.Flow{Blocks: []api.Block{{Ends: api.Stops, Code: []api.Instr{table(0, 0)}}}, Tables: [][]int{list[:4]}}
	first, _ := flow.Nexts(f, 0)
	second, _ := flow.Nexts(f, 0)
	for k := range first[:cap(first)] {
		first[:cap(first)][k] = 99
	}
	if want := []int{5, 3, 3, 1, 8, 7}; !slices.Equal(list, want) {
		t.Errorf("the Table is %v, want %v", list, want)
	}
	if want := []int{1, 3, 5}; !slices.Equal(second, want) {
		t.Errorf("the second answer is %v, want %v", second, want)
	}
}
