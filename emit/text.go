package emit

import (
	"cmp"
	"slices"

	"bolthole/api"
	"bolthole/isa"
)

// text: instructions, one behind the other.
type text struct {
	items  []item
	begins []int // for each block the place of the item with which it begins; of one without items that of the next one
}

// write the blocks of parts that fit, none of it Long.
func write(f api.Flow, l []api.Part) text {
	t := text{begins: make([]int, len(f.Blocks))}
	for _, p := range l {
		for k, n := range p.Blocks {
			next := none
			if k+1 < len(p.Blocks) {
				next = p.Blocks[k+1]
			}
			// A block without items has a next one, in its part: so there is always an item to begin with.
			t.begins[n] = len(t.items)
			t.items = append(t.items, codeOf(f, f.Blocks[n])...)
			t.items = append(t.items, endOf(f.Blocks[n], next)...)
		}
	}
	return t
}

// settle which items are Long, and where all of them are; how many bytes they have.
func (t text) settle() int {
	for {
		size := t.number()
		// What is Long only moves others farther apart: so what has to be Long once has to be so in the end.
		if !t.lengthen() {
			return size
		}
	}
}

// number the items: their addresses, as long as they are now; how many bytes they have.
func (t text) number() int {
	at := 0
	for k := range t.items {
		t.items[k].at = at
		size, _ := isa.Size(t.items[k].instr) // N is 0, or was decoded so: it may be
		at += size
	}
	return at
}

// lengthen branches and Jumps that lead too far; whether there were such.
func (t text) lengthen() bool {
	found := false
	for k, x := range t.items {
		if x.to == none || x.instr.Kind == api.Call || x.instr.Long {
			continue
		}
		if d := t.distance(x); d < -128 || d > 127 {
			t.items[k].instr.Long = true
			found = true
		}
	}
	return found
}

// distance to the block to which an item leads.
func (t text) distance(x item) int { return t.address(x.to) - x.at }

// address where a block begins.
func (t text) address(block int) int { return t.items[t.begins[block]].at }

func (t text) addresses(blocks []int) []int {
	l := make([]int, len(blocks))
	for k, n := range blocks {
		l[k] = t.address(n)
	}
	return l
}

// bytes of items that are settled, and not more than a program may have.
func (t text) bytes() []byte {
	var all []byte
	for _, x := range t.items {
		i := x.instr
		if x.to != none {
			i.N = t.distance(x)
		}
		b, _ := isa.Encode(i) // no two items are farther apart than two bytes can say
		all = append(all, b...)
	}
	return all
}

// lines: where the code is of another line than ahead.
func (t text) lines() []api.Line {
	var l []api.Line
	ahead := 0
	for _, x := range t.items {
		if x.line != ahead {
			l = append(l, api.Line{At: x.at, N: x.line})
		}
		ahead = x.line
	}
	return l
}

// functions in the order of the parts, of so many bytes in all.
func (t text) functions(old []api.Func, l []api.Part, size int) []api.Func {
	funcs := make([]api.Func, len(l))
	end := size
	for k := len(l) - 1; k >= 0; k-- {
		start := t.address(l[k].Blocks[0])
		funcs[k] = api.Func{Name: old[l[k].Func].Name, Start: start, Size: end - start}
		end = start
	}
	return funcs
}

// pairs of where items were and are, by where they were.
func (t text) pairs() []api.Pair {
	var l []api.Pair
	for _, x := range t.items {
		if x.old != none {
			l = append(l, api.Pair{Old: x.old, New: x.at})
		}
	}
	slices.SortFunc(l, func(a, b api.Pair) int { return cmp.Compare(a.Old, b.Old) })
	return l
}
