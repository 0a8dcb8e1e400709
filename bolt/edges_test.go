package bolt_test

import (
	"fmt"
	"math"
	"reflect"
	"slices"
	"strings"
	"testing"

	"bolthole/api"
	"bolthole/bolt"
	"bolthole/flow"
	"bolthole/tally"
)

func edge(from, to, count int) api.Edge { return api.Edge{From: from, To: to, Count: count} }

// hasEdges: by that flow the tally has these.
func hasEdges(t *testing.T, what string, f api.Flow, s string, want ...api.Edge) {
	t.Helper()
	if l := bolt.Edges(f, s); !slices.Equal(l, want) {
		t.Errorf("%s: Edges(%q) = %v, want %v", what, s, l, want)
	}
}

func flowOf(t *testing.T, m api.Image) api.Flow {
	t.Helper()
	f, e := flow.Recover(m)
	if e != api.OK {
		t.Fatalf("Recover(%v) = %v", m, e)
	}
	return f
}

// P8.1: the edges of a text, mapped to blocks: those that fit, summed and in order.
func TestEdges(t *testing.T) {
	f := flowOf(t, loop())
	hasEdges(t, "no text", f, "")
	hasEdges(t, "in order", f, "15 4 2\n7 10 2\n4 9 1\n4 7 2\n0 4 1\n", edge(0, 1, 1), edge(1, 2, 2), edge(1, 3, 1), edge(2, 4, 2), edge(4, 1, 2))
	hasEdges(t, "summed", f, "4 9 1\n4 7 2\n4 9 3\n", edge(1, 2, 2), edge(1, 3, 4))
	hasEdges(t, "summed to MaxCount", f, "4 9 1073741824\n4 7 2\n4 9 1073741824\n4 7 1073741821\n", edge(1, 2, api.MaxCount-1), edge(1, 3, api.MaxCount))
	hasEdges(t, "as often as never", f, "4 9 0\n4 7 0\n4 7 1\n", edge(1, 2, 1))
	hasEdges(t, "some do not fit", f, "4 10 1\n9 10 5\n10 12 5\n12 15 5\n4 8 2\n5 9 2\n7 10 3\n1073741824 4 1\n4 1073741824 1\n", edge(2, 4, 3))
	hasEdges(t, "by a Table", flowOf(t, twoFuncs()), "16 20 4\n16 19 4\n16 8 1\n4 8 9\n", edge(2, 1, 1), edge(2, 4, 4))
}

// P8.1: a text that is refused has none, whatever stands ahead in it; the program is not refused.
func TestEdgesRefused(t *testing.T) {
	f := flowOf(t, loop())
	for _, s := range badTallies() {
		if l := bolt.Edges(f, s); len(l) != 0 {
			t.Errorf("Edges(%q) = %v, want none", s, l)
		}
		optimizes(t, "a tally that is refused", loop(), s, optimized(t, loop(), ""))
	}
}

// P8.1: the longest text that is not refused.
func TestEdgesMaxTally(t *testing.T) {
	f := flowOf(t, loop())
	s := strings.Repeat("4 9 1\n", 664)
	longest, tooLong := s+"15 4 1073741824\n", s+"15 10 1073741824\n"
	if len(longest) != api.MaxTally || len(tooLong) != api.MaxTally+1 {
		t.Fatalf("%d and %d bytes", len(longest), len(tooLong))
	}
	hasEdges(t, "as long as may be", f, longest, edge(1, 3, 664), edge(4, 1, api.MaxCount))
	hasEdges(t, "too long", f, tooLong)
}

// P8.1: flows of all sorts, those too that no program has.
func TestEdgesOfAnyFlow(t *testing.T) {
	s := "1 0 3\n0 1 4\n0 0 5\n1 1 6\n"
	hasEdges(t, "no blocks", api.Flow{}, s)
	hasEdges(t, "blocks of nothing", api.Flow{Blocks: make([]api.Block, 3)}, s)
	// Of several blocks with the same addresses the last one counts.
	at := func(start, end, ends, to, other int) api.Block {
		return api.Block{Start: start, At: []int{end}, Ends: ends, To: to, Else: other}
	}
	f := api.Flow{Blocks: []api.Block{at(0, 1, api.Falls, 1, 0), at(0, 1, api.Falls, 1, 0), at(1, 0, api.Chance, 1, 2)}}
	hasEdges(t, "the last one counts", f, s, edge(1, 1, 3), edge(2, 1, 5), edge(2, 2, 4))
	for _, n := range []int{math.MinInt, -1, 3, 1000, math.MaxInt} {
		b := api.Block{Func: n, Start: 0, At: []int{n, 0}, Ends: api.Chance, To: n, Else: n, Code: []api.Instr{table(n, n)}}
		hasEdges(t, fmt.Sprint("a block outside: ", n), api.Flow{Blocks: []api.Block{b}, Tables: [][]int{{n}}, Firsts: []int{n, n}}, s)
		b.Ends = api.Stops
		hasEdges(t, fmt.Sprint("a Table outside: ", n), api.Flow{Blocks: []api.Block{b}, Tables: [][]int{{0}}}, s)
		b.Code[0].N = 0
		hasEdges(t, fmt.Sprint("a Table: ", n), api.Flow{Blocks: []api.Block{b}, Tables: [][]int{{n, 0}}}, s, edge(0, 0, 5))
	}
}

// flow that looks drawn, of few addresses, so that blocks often share some; it is hardly ever one of a program.
func (d *die) flow() api.Flow {
	place := func() int { return []int{d.n(5), d.n(5), d.n(5), d.n(8) - 1, math.MinInt, math.MaxInt}[d.n(6)] }
	var f api.Flow
	for range d.n(3) {
		f.Tables = append(f.Tables, []int{place(), place(), place()})
		f.Firsts = append(f.Firsts, place())
	}
	for range d.n(8) {
		b := api.Block{Func: place(), Start: d.n(5), Ends: d.n(6), To: place(), Else: place()}
		for range d.n(4) {
			b.At = append(b.At, d.n(5))
		}
		for range d.n(3) {
			b.Code = append(b.Code, []api.Instr{table(0, place()), {Kind: place(), N: place()}}[d.n(2)])
		}
		f.Blocks = append(f.Blocks, b)
	}
	return f
}

// copyOf a flow, in memory of its own.
func copyOf(f api.Flow) api.Flow {
	c := api.Flow{Blocks: slices.Clone(f.Blocks), Tables: slices.Clone(f.Tables), Firsts: slices.Clone(f.Firsts)}
	for k, b := range c.Blocks {
		c.Blocks[k].At, c.Blocks[k].Code, c.Blocks[k].Lines = slices.Clone(b.At), slices.Clone(b.Code), slices.Clone(b.Lines)
	}
	for k, l := range c.Tables {
		c.Tables[k] = slices.Clone(l)
	}
	return c
}

// P8.1: drawn flows have the edges of a text, mapped to them; they are not changed, and no answer shares memory with another one.
func TestEdgesDrawn(t *testing.T) {
	d := die(8)
	fits := 0
	for range 20000 {
		f := d.flow()
		var ways []api.Edge
		for range d.n(16) {
			ways = append(ways, edge(d.n(5), d.n(5), d.count()-d.n(2)))
		}
		s := told(ways)
		want, e := tally.Map(f, ways)
		if e != api.OK {
			t.Fatalf("Map(%v, %v) = %v", f, ways, e)
		}
		kept := copyOf(f)
		l := bolt.Edges(f, s)
		clear(l[:cap(l)])
		hasEdges(t, fmt.Sprint(kept), f, s, want...)
		hasEdges(t, fmt.Sprint(kept), f, s+"0", nil...)
		if !reflect.DeepEqual(f, kept) {
			t.Fatalf("%v, %q: the flow is another one: %v", kept, s, f)
		}
		fits += len(want)
	}
	if fits < 1500 {
		t.Errorf("only %d edges did fit", fits)
	}
}
