package emit_test

import (
	"cmp"
	"fmt"
	"math/bits"
	"slices"
	"testing"

	"bolthole/api"
	"bolthole/flow"
	"bolthole/image"
	"bolthole/isa"
	"bolthole/step"
)

// die: numbers that look drawn, the same each time.
type die uint64

func (d *die) n(most int) int {
	*d = *d*6364136223846793005 + 1442695040888963407
	return int(uint64(*d>>33) % uint64(most))
}

// leads: is it a branch or a Jump?
func leads(i api.Instr) bool { return i.Kind >= api.Beq && i.Kind <= api.Jump }

// instr that looks drawn; last: one that may be the last one of a function.
func (d *die) instr(last bool) api.Instr {
	if last {
		return []api.Instr{halt, trap, ret, table(d.n(4), d.n(4)), long(jump(0))}[d.n(5)]
	}
	b := long(branch(api.Beq+d.n(4), d.n(4), d.n(4), 0))
	return []api.Instr{
		nop, li(d.n(7), d.n(3)), out(d.n(4)), addi(d.n(4), d.n(4), 1-d.n(3)), {Kind: api.In, D: d.n(4)},
		{Kind: api.Load, D: d.n(4), A: d.n(4), N: d.n(2)}, {Kind: api.Store, A: d.n(4), B: d.n(4), N: d.n(2)},
		call(0), call(0), b, b, b, long(jump(0)), long(jump(0)), table(d.n(4), d.n(4)), halt, trap, ret,
	}[d.n(18)]
}

// sketch of a program: its instructions, each with its function and its address.
type sketch struct {
	list  []api.Instr
	owner []int
	at    []int
	end   int
}

func (s *sketch) add(owner int, l ...api.Instr) {
	for _, i := range l {
		size, _ := isa.Size(i)
		s.list, s.owner, s.at = append(s.list, i), append(s.owner, owner), append(s.at, s.end)
		s.end += size
	}
}

// addresses of the instructions of a function.
func (s sketch) addresses(owner int) []int {
	var l []int
	for k, at := range s.at {
		if s.owner[k] == owner {
			l = append(l, at)
		}
	}
	return l
}

// program of up to so many functions, each of up to so many instructions that look drawn, with up to so many nops behind each of them; it can be followed.
func (d *die) program(functions, length, most int) api.Image {
	var s sketch
	var m api.Image
	for k := range 1 + d.n(functions) {
		start := s.end
		for range d.n(length) {
			s.add(k, d.instr(false))
			s.add(k, nops(d.n(most+1)*d.n(2))...)
		}
		s.add(k, d.instr(true))
		m.Funcs = append(m.Funcs, api.Func{Name: fmt.Sprint("f", k), Start: start, Size: s.end - start})
	}
	for k, i := range s.list {
		if leads(i) {
			own := s.addresses(s.owner[k])
			s.list[k].N = own[d.n(len(own))] - s.at[k]
		} else if i.Kind == api.Call {
			s.list[k].N = m.Funcs[d.n(len(m.Funcs))].Start - s.at[k]
		}
	}
	m.Text = code(s.list...)
	m.Tables = d.tables(s)
	m.Entry = d.n(len(m.Funcs))
	m.Data = []int{d.n(3), d.n(3), d.n(3)}
	for _, at := range s.at {
		if d.n(3) == 0 {
			m.Lines = append(m.Lines, api.Line{At: at, N: d.n(6)})
		}
	}
	return m
}

// tables: up to three, each with addresses of the function that names it, if just one does.
func (d *die) tables(s sketch) [][]int {
	var all [][]int
	for n := range d.n(4) {
		var naming []int
		for k, i := range s.list {
			if i.Kind == api.Table && i.N == n {
				naming = append(naming, s.owner[k])
			}
		}
		naming = slices.Compact(naming)
		var l []int
		for k, at := range s.at {
			if (len(naming) == 0 || slices.Equal(naming, s.owner[k:k+1])) && d.n(4) == 0 && len(l) < api.MaxTable {
				l = append([]int{at}, l...)
			}
		}
		all = append(all, l)
	}
	return all
}

// order: the functions and blocks of a program in an order that looks drawn.
func (d *die) order(t *testing.T, m api.Image) []api.Part {
	t.Helper()
	l := asTheyStood(t, m)
	for _, p := range l {
		shuffle(d, p.Blocks[1:], 1+d.n(3))
	}
	shuffle(d, l, 1+d.n(2))
	return l
}

// shuffle some of a list, so that others stay one behind the other.
func shuffle[T any](d *die, l []T, rarely int) {
	for k := range l {
		if d.n(rarely) == 0 {
			j := d.n(k + 1)
			l[k], l[j] = l[j], l[k]
		}
	}
}

// told: an instruction as the chapter says it: which block it leads to (-1: none), where it was (-1: it is new), and its line.
type told struct {
	instr api.Instr
	to    int
	old   int
	line  int
}

// slowText: what stands there by P7.2, and for each block how many instructions stand ahead of it.
func slowText(f api.Flow, l []api.Part) ([]told, []int) {
	var text []told
	ahead := make([]int, len(f.Blocks))
	turned := map[int]int{api.Beq: api.Bne, api.Bne: api.Beq, api.Blt: api.Bge, api.Bge: api.Blt}
	for _, p := range l {
		for k, n := range p.Blocks {
			b := f.Blocks[n]
			isNext := func(n int) bool { return k < len(p.Blocks)-1 && p.Blocks[k+1] == n }
			ahead[n] = len(text)
			for j, i := range b.Code {
				text = append(text, told{i, -1, b.At[j], b.Lines[j]})
			}
			end, line := b.At[len(b.At)-1], b.Lines[len(b.Lines)-1]
			if (b.Ends == api.Falls || b.Ends == api.Jumps) && !isNext(b.To) {
				if b.Ends == api.Falls {
					end = -1
				}
				text = append(text, told{jump(0), b.To, end, line})
			}
			if b.Ends == api.Chance && isNext(b.To) && !isNext(b.Else) {
				text = append(text, told{branch(turned[b.Last.Kind], b.Last.A, b.Last.B, 0), b.Else, end, line})
			} else if b.Ends == api.Chance {
				text = append(text, told{b.Last, b.To, end, line})
				if !isNext(b.Else) {
					text = append(text, told{jump(0), b.Else, -1, line})
				}
			}
		}
	}
	return text, ahead
}

// decoded: the instructions of a text, and their addresses.
func decoded(t *testing.T, text []byte) ([]api.Instr, []int) {
	t.Helper()
	var l []api.Instr
	var addresses []int
	for at := 0; at < len(text); {
		i, size, e := isa.Decode(text, at)
		if e != api.OK {
			t.Fatalf("%v: at %d: %v", text, at, e)
		}
		l, addresses = append(l, i), append(addresses, at)
		at += size
	}
	return l, addresses
}

// sound: the program is what the chapter says, but for which instructions are Long (P7.2, P7.4, P7.5); what is not so.
func sound(t *testing.T, m api.Image, l []api.Part, x api.Image, p []api.Pair) string {
	t.Helper()
	f, _ := flow.Recover(m)
	text, ahead := slowText(f, l)
	got, at := decoded(t, x.Text)
	if len(got) != len(text) {
		return fmt.Sprint(len(got), " instructions, want ", len(text))
	}
	var moved []api.Pair
	line, lines := 0, 0
	for k, w := range text {
		i := got[k]
		to := at[k] + i.N
		switch {
		case i.Kind == api.Call:
			if to != at[ahead[f.Firsts[w.instr.N]]] {
				return fmt.Sprint("a Call at ", at[k], " to ", to)
			}
			w.instr.N = i.N
		case w.to >= 0:
			if to != at[ahead[w.to]] {
				return fmt.Sprint("from ", at[k], " to ", to)
			}
			w.instr.N, w.instr.Long = i.N, i.Long
		}
		if i != w.instr {
			return fmt.Sprint("at ", at[k], " ", i, ", want ", w.instr)
		}
		if w.old >= 0 {
			moved = append(moved, api.Pair{Old: w.old, New: at[k]})
		}
		if w.line != line {
			if lines >= len(x.Lines) || x.Lines[lines] != (api.Line{At: at[k], N: w.line}) {
				return fmt.Sprint("no line at ", at[k])
			}
			lines++
		}
		line = w.line
	}
	slices.SortFunc(moved, func(a, b api.Pair) int { return cmp.Compare(a.Old, b.Old) })
	if !slices.Equal(p, moved) || lines != len(x.Lines) {
		return fmt.Sprint("the pairs are ", p, ", want ", moved, "; ", len(x.Lines), " Lines, want ", lines)
	}
	return soundRest(m, f, l, x, func(block int) int { return at[ahead[block]] })
}

// soundRest: all but the text, the Lines and the pairs (P7.4).
func soundRest(m api.Image, f api.Flow, l []api.Part, x api.Image, address func(block int) int) string {
	if len(x.Funcs) != len(l) || len(x.Tables) != len(m.Tables) || !slices.Equal(x.Data, m.Data) {
		return "functions, Tables or Data"
	}
	for k, p := range l {
		if x.Funcs[k].Name != m.Funcs[p.Func].Name || x.Funcs[k].Start != address(p.Blocks[0]) {
			return fmt.Sprint("function ", k)
		}
	}
	if x.Entry < 0 || x.Entry >= len(l) || l[x.Entry].Func != m.Entry {
		return fmt.Sprint("Entry ", x.Entry)
	}
	for k, blocks := range f.Tables {
		if len(x.Tables[k]) != len(blocks) {
			return fmt.Sprint("Table ", k)
		}
		for j, n := range blocks {
			if x.Tables[k][j] != address(n) {
				return fmt.Sprint("Table ", k, " at ", j)
			}
		}
	}
	if e := image.Check(x); e != api.OK {
		return fmt.Sprint("it is ", e)
	}
	return ""
}

// ways: instructions as their sizes, and for those that are branches or Jumps to which one they lead.
type ways struct {
	sizes []int
	from  []int // the places of branches and Jumps, and
	to    []int // where they lead
	long  uint64
}

// waysOf a text, all as if not Long; long: those that are so.
func waysOf(t *testing.T, text []byte) ways {
	t.Helper()
	l, at := decoded(t, text)
	var w ways
	for k, i := range l {
		if leads(i) {
			to, _ := slices.BinarySearch(at, at[k]+i.N)
			if i.Long && len(w.from) < 64 {
				w.long |= 1 << len(w.from)
			}
			w.from, w.to = append(w.from, k), append(w.to, to)
		}
		i.Long, i.N = false, 0
		size, _ := isa.Size(i)
		w.sizes = append(w.sizes, size)
	}
	return w
}

// tooFar: the first branch or Jump that is not Long, and leads too far, if those of a set are so; -1: none does.
func (w ways) tooFar(long func(n int) bool) int {
	sizes := slices.Clone(w.sizes)
	for n, k := range w.from {
		if long(n) {
			sizes[k]++
		}
	}
	at := 0
	addresses := make([]int, len(sizes))
	for k, size := range sizes {
		addresses[k] = at
		at += size
	}
	for n, k := range w.from {
		d := addresses[w.to[n]] - addresses[k]
		if !long(n) && (d < -128 || d > 127) {
			return n
		}
	}
	return -1
}

// leaps: a program of a few blocks, each of up to so many bytes, that go on to one another as they look drawn.
func (d *die) leaps(most int) api.Image {
	var s sketch
	var begins []int
	for range 2 + d.n(4) {
		begins = append(begins, s.end)
		s.add(0, nops(d.n(most))...)
		s.add(0, []api.Instr{long(jump(0)), long(branch(api.Beq+d.n(4), 1, 2, 0))}[d.n(2)])
	}
	s.add(0, halt)
	for k, i := range s.list {
		if leads(i) {
			s.list[k].N = begins[d.n(len(begins))] - s.at[k]
		}
	}
	return program(s.list...)
}

// P7.2, P7.4, P7.5: drawn programs in drawn orders are what the chapter says.
func TestDrawn(t *testing.T) {
	d := die(1)
	for range 3000 {
		m := d.program(4, 14, []int{0, 0, 3, 40}[d.n(4)])
		if len(m.Text) > api.MaxFirst {
			continue
		}
		l := d.order(t, m)
		x, p := emitted(t, "drawn", m, l)
		if what := sound(t, m, l, x, p); what != "" {
			t.Fatalf("Emit(%v, %v) = %v, %v: %s", m, l, x, p, what)
		}
	}
}

// P7.3: of all sets of branches and Jumps that could be Long the smallest one is.
func TestDrawnFewestLong(t *testing.T) {
	d := die(2)
	counts := map[int]int{}
	for range 3000 {
		m := d.leaps(40 + d.n(80))
		l := d.order(t, m)
		x, _ := emitted(t, "drawn", m, l)
		w := waysOf(t, x.Text)
		best, of := -1, 0
		for set := range uint64(1) << len(w.from) {
			count := bits.OnesCount64(set)
			if best >= 0 && count > best || w.tooFar(func(n int) bool { return set>>n&1 > 0 }) >= 0 {
				continue
			}
			if count != best {
				best, of = count, 0
			}
			of++
			if of > 1 {
				t.Fatalf("%v: two smallest sets", x.Text)
			}
			if set == w.long {
				counts[count]++
			}
		}
		if got := bits.OnesCount64(w.long); got != best || w.tooFar(func(n int) bool { return w.long>>n&1 > 0 }) >= 0 {
			t.Fatalf("Emit(%v, %v) = %v: %d are Long, want %d", m, l, x, got, best)
		}
	}
	if counts[0] < 200 || counts[1] < 200 || counts[2] < 100 || counts[4] < 30 {
		t.Errorf("so many were Long so often: %v", counts)
	}
}

// P7.3: in large programs just those are Long that have to be, one by one.
func TestDrawnLarge(t *testing.T) {
	d := die(3)
	seen := 0
	for range 60 {
		m := d.program(1+d.n(20), 20+d.n(400), d.n(3))
		if len(m.Text) < 1000 || len(m.Text) > api.MaxFirst {
			continue
		}
		seen++
		l := d.order(t, m)
		x, p := emitted(t, "large", m, l)
		if what := sound(t, m, l, x, p); what != "" {
			t.Fatalf("Emit(%v, %v) = %v, %v: %s", m, l, x, p, what)
		}
		w := waysOf(t, x.Text)
		long := make([]bool, len(w.from))
		for {
			n := w.tooFar(func(n int) bool { return long[n] })
			if n < 0 {
				break
			}
			long[n] = true
		}
		got, _ := decoded(t, x.Text)
		for n, k := range w.from {
			if got[k].Long != long[n] {
				t.Fatalf("Emit(%v, %v) = %v: %d is Long: %v, want %v", m, l, x, k, got[k].Long, long[n])
			}
		}
	}
	if seen < 15 {
		t.Errorf("only %d were large", seen)
	}
}

// P7.2, P7.4: a program in another order tells the same, and ends so, unless it is Guarded, or out of fuel.
func TestDrawnRuns(t *testing.T) {
	d := die(4)
	ends := map[int]int{}
	for range 8000 {
		m := d.program(3, 14, 2)
		l := d.order(t, m)
		x, _ := emitted(t, "drawn", m, l)
		in := []int{d.n(3), d.n(3), d.n(3), d.n(3)}
		fuel := []int{1000, d.n(60)}[d.n(2)]
		was, _ := step.Run(m, in, fuel)
		if was.End == api.Guarded {
			continue
		}
		now, e := step.Run(x, in, 3*was.Steps+3)
		if e != api.OK || len(now.Told) < len(was.Told) || !slices.Equal(now.Told[:len(was.Told)], was.Told) {
			t.Fatalf("%v, %v: it was %v, it is %v, %v", m, l, was, now, e)
		}
		if was.End != api.Spent && (now.End != was.End || len(now.Told) != len(was.Told)) {
			t.Fatalf("%v, %v: it was %v, it is %v", m, l, was, now)
		}
		ends[was.End]++
	}
	if ends[api.Halted] < 300 || ends[api.Trapped] < 300 || ends[api.Spent] < 300 {
		t.Errorf("they ended so: %v", ends)
	}
}

// P7.5: by the pairs each instruction is found as it was, with the same line.
func TestDrawnPairs(t *testing.T) {
	d := die(5)
	for range 3000 {
		m := d.program(3, 14, 2)
		x, p := emitted(t, "drawn", m, d.order(t, m))
		for _, a := range p {
			was, _, _ := isa.Decode(m.Text, a.Old)
			is, _, e := isa.Decode(x.Text, a.New)
			turned := leads(was) && was.Kind != api.Jump && (was.Kind-api.Beq)^1 == is.Kind-api.Beq
			if e != api.OK || was.Kind != is.Kind && !turned || was.D != is.D || was.A != is.A || was.B != is.B {
				t.Fatalf("%v: %v was %v, is %v", m, a, was, is)
			}
			if image.LineAt(m, a.Old) != image.LineAt(x, a.New) {
				t.Fatalf("%v: %v is of line %d, was of line %d", m, a, image.LineAt(x, a.New), image.LineAt(m, a.Old))
			}
		}
	}
}
