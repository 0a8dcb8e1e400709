package place_test

import (
	"fmt"
	"slices"
	"testing"

	"bolthole/api"
	"bolthole/place"
)

// die: numbers that look drawn, the same each time.
type die uint64

func (d *die) n(most int) int {
	*d = *d*6364136223846793005 + 1442695040888963407
	return int(uint64(*d>>33) % uint64(most))
}

// pick takes the first one of the greatest out of a list.
func pick[T any](l []T, size func(T) int) (T, []T) {
	best := 0
	for k := range l {
		if size(l[k]) > size(l[best]) {
			best = k
		}
	}
	return l[best], slices.Delete(slices.Clone(l), best, best+1)
}

// slowChains: chains as the chapter says them, list by list.
func slowChains(f api.Flow, l []api.Edge) [][]int {
	var chains [][]int
	for n := range f.Blocks {
		chains = append(chains, []int{n})
	}
	for len(l) > 0 {
		var e api.Edge
		e, l = pick(l, func(e api.Edge) int { return e.Count })
		from := slices.IndexFunc(chains, func(c []int) bool { return c[len(c)-1] == e.From })
		to := slices.IndexFunc(chains, func(c []int) bool { return c[0] == e.To })
		if from < 0 || to < 0 || from == to || f.Blocks[e.From].Func != f.Blocks[e.To].Func || slices.Contains(f.Firsts, e.To) {
			continue
		}
		chains[from] = append(chains[from], chains[to]...)
		chains = slices.Delete(chains, to, to+1)
	}
	return chains
}

// slowOrder: the parts of a flow that fits, as the chapter says them.
func slowOrder(f api.Flow, l []api.Edge) []api.Part {
	heat := func(blocks []int) int {
		sum := 0
		for _, e := range l {
			if slices.Contains(blocks, e.From) {
				sum += e.Count
			}
		}
		return sum
	}
	chains := slowChains(f, l)
	var parts []api.Part
	for k, first := range f.Firsts {
		p := api.Part{Func: k}
		var others [][]int
		for _, c := range chains {
			if c[0] == first {
				p.Blocks = slices.Clone(c)
			} else if f.Blocks[c[0]].Func == k {
				others = append(others, c)
			}
		}
		for len(others) > 0 {
			var c []int
			c, others = pick(others, heat)
			p.Blocks = append(p.Blocks, c...)
		}
		parts = append(parts, p)
	}
	var sorted []api.Part
	for len(parts) > 0 {
		var p api.Part
		p, parts = pick(parts, func(p api.Part) int { return heat(p.Blocks) })
		sorted = append(sorted, p)
	}
	return sorted
}

// edges between so many blocks that look drawn, in order, with Counts of which many are the same.
func (d *die) edges(blocks int) []api.Edge {
	var l []api.Edge
	often := 1 + d.n(4)
	for from := range blocks {
		for to := range blocks {
			if d.n(blocks) < often {
				l = append(l, edge(from, to, []int{1, 1 + d.n(3), 1 + d.n(9), api.MaxCount - d.n(2)}[d.n(4)]))
			}
		}
	}
	return l
}

// P6.3, P6.4, P6.5: drawn flows with drawn edges, by all that the chapter says.
func TestOrderDrawn(t *testing.T) {
	d := die(6)
	moved, turned := 0, 0
	for range 20000 {
		var counts []int
		for range 1 + d.n(4) {
			counts = append(counts, 1+d.n(6))
		}
		f := of(counts...)
		l := d.edges(len(f.Blocks))
		want := slowOrder(f, l)
		orders(t, fmt.Sprint(counts, l), f, l, want...)
		for k, p := range want {
			if p.Func != k {
				moved++
			}
			if !slices.IsSorted(p.Blocks) {
				turned++
			}
		}
	}
	if moved < 5000 || turned < 5000 {
		t.Errorf("only %d functions stood elsewhere, only %d had their blocks in another order", moved, turned)
	}
}

// slowFits: what the chapter says of a flow that fits.
func slowFits(f api.Flow) bool {
	for n, b := range f.Blocks {
		if b.Func < 0 || b.Func >= len(f.Firsts) || n > 0 && b.Func < f.Blocks[n-1].Func {
			return false
		}
	}
	for k, first := range f.Firsts {
		n := slices.IndexFunc(f.Blocks, func(b api.Block) bool { return b.Func == k })
		if n < 0 || n != first {
			return false
		}
	}
	return true
}

// lists: all lists of numbers from -1 to most, of up to so many.
func lists(most, length int) [][]int {
	all := [][]int{{}}
	for begin := 0; length > 0; length-- {
		end := len(all)
		for _, l := range all[begin:end] {
			for n := -1; n <= most; n++ {
				all = append(all, append(slices.Clone(l), n))
			}
		}
		begin = end
	}
	return all
}

// P6.2: all small flows, those that fit and those that do not.
func TestOrderAllFits(t *testing.T) {
	fit := 0
	firsts := lists(4, 3)
	for _, functions := range lists(3, 4) {
		f := api.Flow{Blocks: make([]api.Block, len(functions))}
		for n := range functions {
			f.Blocks[n].Func = functions[n]
		}
		for _, f.Firsts = range firsts {
			want := api.ErrOrder
			if slowFits(f) {
				want = api.OK
				fit++
			}
			if parts, e := place.Order(f, nil); e != want || e != api.OK && len(parts) != 0 || e == api.OK && len(parts) != len(f.Firsts) {
				t.Errorf("functions %v, Firsts %v: Order = %v, %v, want %v", functions, f.Firsts, parts, e, want)
			}
		}
	}
	if fit != 1+1+2+4+7 {
		t.Errorf("%d of them fit, want 15", fit)
	}
}

// P6.2, P6.3: a great flow: chains that grow at the one end, and at the other, and of halves, are not gone through each time.
func TestOrderGreatFlow(t *testing.T) {
	const blocks = 200000
	f := of(blocks)
	var back []api.Edge
	want := []int{0}
	for n := range blocks - 1 {
		want = append(want, blocks-1-n)
	}
	back = append(back, edge(0, blocks-1, 1))
	for n := 2; n < blocks; n++ {
		back = append(back, edge(n, n-1, n))
	}
	orders(t, "from behind", f, back, part(0, want...))
	for k := range back {
		back[k].Count = blocks - k
	}
	orders(t, "from ahead", f, back, part(0, want...))
	for k := range back {
		n := k + 1
		back[k].Count = 1 + blocks/(n&-n)
	}
	orders(t, "by halves", f, back, part(0, want...))
}
