package tally_test

import (
	"fmt"
	"slices"
	"strings"
	"testing"

	"bolthole/api"
	"bolthole/flow"
	"bolthole/step"
	"bolthole/tally"
)

// die: numbers that look drawn, the same each time.
type die uint64

func (d *die) n(most int) int {
	*d = *d*6364136223846793005 + 1442695040888963407
	return int(uint64(*d>>33) % uint64(most))
}

// told: an edge as a line.
func told(e api.Edge) string { return fmt.Sprintf("%d %d %d\n", e.From, e.To, e.Count) }

// flow that looks drawn, of few addresses, so that blocks often share some; it is hardly ever one of a program.
func (d *die) flow() api.Flow {
	f := api.Flow{Tables: make([][]int, d.n(3))}
	for k := range f.Tables {
		for range d.n(4) {
			f.Tables[k] = append(f.Tables[k], d.n(7)-1)
		}
	}
	for range 1 + d.n(6) {
		b := api.Block{Start: d.n(4), Ends: d.n(6), To: d.n(7) - 1, Else: d.n(7) - 1}
		for range d.n(4) {
			b.At = append(b.At, d.n(4))
		}
		if d.n(3) > 0 {
			b.Code = []api.Instr{{Kind: api.Table - d.n(2), N: d.n(4) - 1}}
		}
		f.Blocks = append(f.Blocks, b)
	}
	return f
}

// slow: the edges of a flow as the chapter says them, two blocks at a time.
func slow(f api.Flow, l []api.Edge) []api.Edge {
	ends := func(at int) int {
		for n := len(f.Blocks) - 1; n >= 0; n-- {
			if a := f.Blocks[n].At; len(a) > 0 && a[len(a)-1] == at {
				return n
			}
		}
		return -1
	}
	begins := func(at int) int {
		for n := len(f.Blocks) - 1; n >= 0; n-- {
			if f.Blocks[n].Start == at {
				return n
			}
		}
		return -1
	}
	var all []api.Edge
	for from := range f.Blocks {
		nexts, _ := flow.Nexts(f, from)
		for to := range f.Blocks {
			count := 0
			for _, e := range l {
				if ends(e.From) == from && begins(e.To) == to {
					count += e.Count
				}
			}
			if count > 0 && slices.Contains(nexts, to) {
				all = append(all, api.Edge{From: from, To: to, Count: min(count, api.MaxCount)})
			}
		}
	}
	return all
}

// P5.2: edges of drawn flows, by all that the chapter says.
func TestMapDrawn(t *testing.T) {
	d := die(3)
	fits, most := 0, 0
	for range 20000 {
		f := d.flow()
		var l []api.Edge
		for range d.n(20) {
			l = append(l, edge(d.n(4), d.n(4), []int{0, 1, d.n(9), api.MaxCount - d.n(3), api.MaxCount / 2}[d.n(5)]))
		}
		want := slow(f, l)
		maps(t, fmt.Sprint(f, l), f, l, want...)
		fits += len(want)
		for _, e := range want {
			if e.Count == api.MaxCount {
				most++
			}
		}
	}
	if fits < 3000 || most < 500 {
		t.Errorf("only %d edges did fit, %d with the greatest Count", fits, most)
	}
}

// program that looks drawn, of parts of six bytes: an Out, an Addi or an In, and how it goes on.
func (d *die) program() api.Image {
	parts := 3 + d.n(6)
	m := api.Image{Funcs: []api.Func{{Name: "f", Size: 6 * parts}}, Tables: [][]int{{0, 6, 6 * (parts - 1)}}}
	for k := range parts {
		r := byte(1 + d.n(3))
		m.Text = append(m.Text, [][]byte{{0x41, r, 3}, {0x11, r<<4 | r, 1}, {0x40, r, 3}}[d.n(3)]...)
		to := byte(6*(d.n(parts)-k) - 3)
		last := [][]byte{{byte(0x50 + d.n(4)), 0x12, to}, {3, 0x60, to - 1}, {0x63, r, 0}, {3, 3, 3}}[d.n(4)]
		if k == parts-1 {
			last = []byte{3, 3, 0}
		}
		m.Text = append(m.Text, last...)
	}
	return m
}

// P5.1, P5.2: what a run went, told as a text, read and mapped: between blocks just what it went from the end of one to another, and nothing of what it went within them.
func TestMapRuns(t *testing.T) {
	d := die(4)
	steps := 0
	for range 300 {
		m := d.program()
		f, e := flow.Recover(m)
		if e != api.OK {
			t.Fatalf("%v: Recover = %v", m, e)
		}
		in := []int{d.n(3), d.n(3), d.n(3)}
		var text strings.Builder
		want := make([]int, len(f.Blocks)*len(f.Blocks))
		for fuel := range 60 {
			here, _ := step.Run(m, in, fuel)
			next, _ := step.Run(m, in, fuel+1)
			if next.Steps <= fuel {
				break
			}
			text.WriteString(told(edge(here.At, next.At, 1)))
			from := slices.IndexFunc(f.Blocks, func(b api.Block) bool { return b.At[len(b.At)-1] == here.At })
			to := slices.IndexFunc(f.Blocks, func(b api.Block) bool { return b.Start == next.At })
			if from >= 0 {
				want[from*len(f.Blocks)+to]++
				steps++
			}
		}
		l, e := tally.Read(text.String())
		if e != api.OK {
			t.Fatalf("Read(%q) = %v", text.String(), e)
		}
		var edges []api.Edge
		for k, n := range want {
			if n > 0 {
				edges = append(edges, edge(k/len(f.Blocks), k%len(f.Blocks), n))
			}
		}
		maps(t, fmt.Sprint(m, in), f, l, edges...)
	}
	if steps < 2000 {
		t.Errorf("only %d ways were gone", steps)
	}
}

// P5.2: a flow of many blocks, with edges between those that are farthest.
func TestMapGreatFlow(t *testing.T) {
	const blocks = 100000
	f := api.Flow{Blocks: make([]api.Block, blocks), Tables: make([][]int, 1)}
	for n := range f.Blocks {
		f.Blocks[n] = api.Block{Start: 2 * n, At: []int{2 * n, 2*n + 1}, Ends: api.Falls, To: n + 1}
		f.Tables[0] = append(f.Tables[0], blocks-1-n)
	}
	f.Blocks[blocks-1] = api.Block{Start: 2 * (blocks - 1), At: []int{7 * blocks}, Ends: api.Stops, Code: []api.Instr{{Kind: api.Table, N: 0}}}
	var l, want []api.Edge
	for k := range api.MaxTally / 2 {
		l = append(l, edge(7*blocks, 2*(blocks-1-50*k), 1), edge(2*k+1, 2*k+2, k+1))
		want = append(want, edge(k, k+1, k+1))
	}
	for k := range api.MaxTally / 2 {
		want = append(want, edge(blocks-1, blocks-1-50*(api.MaxTally/2-1-k), 1))
	}
	maps(t, "a great flow", f, l, want...)
}
