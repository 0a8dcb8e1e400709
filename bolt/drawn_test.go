package bolt_test

import (
	"cmp"
	"fmt"
	"slices"
	"strings"

	"bolthole/api"
	"bolthole/flow"
	"bolthole/isa"
	"bolthole/step"
)

// die: numbers that look drawn, the same each time.
type die uint64

func (d *die) n(most int) int {
	*d = *d*6364136223846793005 + 1442695040888963407
	return int(uint64(*d>>33) % uint64(most))
}

// marked: the register that says where a program is; nothing asks for what is in it.
const marked = 6

// draft of a program: its instructions, each with its function and its address; marks: how many of them are marks, no two of which are the same.
type draft struct {
	list  []api.Instr
	owner []int
	at    []int
	end   int
	marks int
}

func (s *draft) add(owner int, l ...api.Instr) {
	for _, i := range l {
		size, _ := isa.Size(i)
		s.list, s.owner, s.at = append(s.list, i), append(s.owner, owner), append(s.at, s.end)
		s.end += size
	}
}

func (s *draft) mark(owner int) {
	s.marks++
	s.add(owner, li(marked, s.marks))
}

// leads: is it a branch or a Jump?
func leads(i api.Instr) bool { return i.Kind >= api.Beq && i.Kind <= api.Jump }

// instrs that look drawn: mostly one, or a Call with what saves the address to which a Ret goes on.
func (d *die) instrs() []api.Instr {
	b := branch(api.Beq+d.n(4), d.n(4), d.n(4), 0)
	one := []api.Instr{
		nop, li(d.n(4), d.n(3)), out(d.n(4)), addi(d.n(4), d.n(4), 1-d.n(3)), in(d.n(4)), load(d.n(4), d.n(4), d.n(2)), store(d.n(4), d.n(4), d.n(2)),
		{Kind: api.Add + d.n(7), D: d.n(4), A: d.n(4), B: d.n(4)}, b, b, long(b), jump(0), long(jump(0)), table(d.n(4), d.n(4)), halt, trap, ret,
	}
	if k := d.n(len(one) + 2); k < len(one) {
		return one[k : k+1]
	}
	return [][]api.Instr{{call(0)}, {store(5, 7, 2), call(0), load(7, 5, 2)}}[d.n(2)]
}

// last instruction of a function.
func (d *die) last() api.Instr {
	return []api.Instr{halt, ret, ret, trap, table(d.n(4), d.n(4)), jump(0), long(jump(0))}[d.n(7)]
}

// program of up to so many functions, each of up to so many instructions that look drawn, with marks and up to so many nops among them; it can be followed.
func (d *die) program(functions, length, most int) api.Image {
	for {
		if m := d.anyProgram(functions, length, most); len(m.Text) <= api.MaxFirst {
			return m
		}
	}
}

func (d *die) anyProgram(functions, length, most int) api.Image {
	var s draft
	var m api.Image
	for k := range 1 + d.n(functions) {
		start := s.end
		for range d.n(length) {
			if d.n(2) == 0 {
				s.mark(k)
			}
			s.add(k, slices.Repeat([]api.Instr{nop}, d.n(most+1)*d.n(2))...)
			s.add(k, d.instrs()...)
		}
		s.add(k, d.last())
		m.Funcs = append(m.Funcs, api.Func{Name: fmt.Sprint("f", k), Start: start, Size: s.end - start})
	}
	d.lead(s, m.Funcs)
	m.Text = code(s.list...)
	m.Tables = d.tables(s)
	m.Entry = d.n(len(m.Funcs))
	m.Data = []int{d.n(3), d.n(3) - 1, d.n(3)}
	for _, at := range s.at {
		if d.n(3) == 0 {
			m.Lines = append(m.Lines, api.Line{At: at, N: d.n(6)})
		}
	}
	return m
}

// lead branches, Jumps and Calls of a draft to where they may go on, as far as they reach.
func (d *die) lead(s draft, funcs []api.Func) {
	for k, i := range s.list {
		if i.Kind == api.Call {
			s.list[k].N = funcs[d.n(len(funcs))].Start - s.at[k]
		}
		if !leads(i) {
			continue
		}
		var reached []int
		for j, at := range s.at {
			far := at - s.at[k]
			if s.owner[j] == s.owner[k] && (i.Long || far >= -128 && far <= 127) {
				reached = append(reached, far)
			}
		}
		s.list[k].N = reached[d.n(len(reached))]
	}
}

// tables of a draft: up to three, each with addresses of the function that names it, if just one does, without any, if several do.
func (d *die) tables(s draft) [][]int {
	var all [][]int
	for n := range d.n(4) {
		var naming []int
		for k, i := range s.list {
			if i.Kind == api.Table && i.N == n {
				naming = append(naming, s.owner[k])
			}
		}
		naming = slices.Compact(naming)
		var l []int
		for k, at := range s.at {
			if (len(naming) == 0 || slices.Equal(naming, s.owner[k:k+1])) && d.n(4) == 0 && len(l) < 5 {
				l = append(l, at)
			}
		}
		if d.n(2) == 0 {
			slices.Reverse(l)
		}
		all = append(all, l)
	}
	return all
}

// inputs that look drawn.
func (d *die) inputs() []int {
	var l []int
	for range d.n(6) {
		l = append(l, d.n(5)-1)
	}
	return l
}

// told: edges as a tally's text.
func told(l []api.Edge) string {
	var s strings.Builder
	for _, e := range l {
		fmt.Fprintf(&s, "%d %d %d\n", e.From, e.To, e.Count)
	}
	return s.String()
}

// taken: the tally of what a run went, step by step, up to so many of them.
func taken(m api.Image, inputs []int, most int) string {
	counts := map[api.Edge]int{}
	for fuel := range most {
		here, _ := step.Run(m, inputs, fuel)
		next, _ := step.Run(m, inputs, fuel+1)
		if next.Steps <= fuel {
			break
		}
		counts[api.Edge{From: here.At, To: next.At}]++
	}
	var l []api.Edge
	for e, n := range counts {
		l = append(l, api.Edge{From: e.From, To: e.To, Count: n})
	}
	slices.SortFunc(l, func(a, b api.Edge) int { return cmp.Or(cmp.Compare(a.From, b.From), cmp.Compare(a.To, b.To)) })
	return told(l)
}

// count of an edge that looks drawn: small ones, of which many are the same, and the greatest ones.
func (d *die) count() int {
	return []int{1, 1 + d.n(3), 1 + d.n(1000), api.MaxCount - d.n(2)}[d.n(4)]
}

// fitting: edges, as they look drawn, on which a program may go on, never mind whether it ever does.
func (d *die) fitting(f api.Flow) []api.Edge {
	var l []api.Edge
	for range d.n(1 + min(150, 2*len(f.Blocks))) {
		n := d.n(len(f.Blocks))
		nexts, _ := flow.Nexts(f, n)
		if len(nexts) > 0 {
			at := f.Blocks[n].At
			l = append(l, api.Edge{From: at[len(at)-1], To: f.Blocks[nexts[d.n(len(nexts))]].Start, Count: d.count()})
		}
	}
	return l
}

// foolish: edges between addresses as they look drawn.
func (d *die) foolish(size int) []api.Edge {
	var l []api.Edge
	for range d.n(150) {
		l = append(l, api.Edge{From: d.n(size), To: d.n(size), Count: d.count()})
	}
	return l
}

// tally of a program: what a run went, or what none did, or what is refused, or nothing.
func (d *die) tally(m api.Image, f api.Flow, inputs []int) string {
	switch d.n(8) {
	case 0:
		return ""
	case 1:
		bad := badTallies()
		return bad[d.n(len(bad))]
	case 2:
		return taken(m, inputs, 60)
	case 3:
		return told(d.foolish(len(m.Text)))
	}
	return told(d.fitting(f))
}
