package flow_test

import (
	"bytes"
	"fmt"
	"slices"
	"testing"

	"bolthole/api"
	"bolthole/flow"
	"bolthole/image"
	"bolthole/isa"
	"bolthole/step"
)

// die: numbers that look drawn, the same each time.
type die uint64

func (d *die) n(most int) int {
	*d = *d*6364136223846793005 + 1442695040888963407
	return int(uint64(*d>>33) % uint64(most))
}

// drawn: a program as a list of instructions; of each its function, its address, and the one (by its place in the list) to which it leads, if it is a branch or a Jump.
type drawn struct {
	m     api.Image
	list  []api.Instr
	owner []int
	at    []int
	to    []int
}

// instr that looks drawn; last: one that may be the last one of a function.
func (d *die) instr(last bool) api.Instr {
	if last {
		return []api.Instr{halt, trap, ret, table(d.n(8), d.n(4)), jump(0), long(jump(0))}[d.n(6)]
	}
	b := branch(api.Beq+d.n(4), d.n(4), d.n(4), 0)
	return []api.Instr{
		nop, li(d.n(7), d.n(3)), out(d.n(4)), addi(d.n(4), d.n(4), 1-d.n(3)), {Kind: api.In, D: d.n(4)},
		call(0), call(0), b, b, long(b), jump(0), table(d.n(4), d.n(4)), halt, trap, ret,
	}[d.n(15)]
}

// program that looks drawn, and can be followed.
func (d *die) program() drawn {
	var p drawn
	sizes := make([]int, 1+d.n(4))
	firsts := make([]int, len(sizes))
	end := 0
	for owner := range sizes {
		firsts[owner] = len(p.list)
		sizes[owner] = 1 + d.n(9)
		begin := end
		for k := range sizes[owner] {
			i := d.instr(k == sizes[owner]-1)
			p.list, p.owner, p.at = append(p.list, i), append(p.owner, owner), append(p.at, end)
			p.to = append(p.to, firsts[owner]+d.n(sizes[owner]))
			size, _ := isa.Size(i)
			end += size
		}
		p.m.Funcs = append(p.m.Funcs, api.Func{Name: fmt.Sprint("f", owner), Start: begin, Size: end - begin})
	}
	for k, i := range p.list {
		switch {
		case i.Kind >= api.Beq && i.Kind <= api.Jump:
			i.N = p.at[p.to[k]] - p.at[k]
		case i.Kind == api.Call:
			i.N = p.at[firsts[d.n(len(firsts))]] - p.at[k]
		}
		p.list[k] = i
	}
	p.m.Text = code(p.list...)
	p.m.Entry = d.n(len(sizes))
	d.tables(&p)
	for k, at := range p.at {
		if d.n(3) == 0 {
			p.m.Lines = append(p.m.Lines, api.Line{At: at, N: k})
		}
	}
	return p
}

// tables: up to three, each with addresses of the function that names it, if just one does.
func (d *die) tables(p *drawn) {
	for n := range d.n(4) {
		var naming []int
		for k, i := range p.list {
			if i.Kind == api.Table && i.N == n {
				naming = append(naming, p.owner[k])
			}
		}
		naming = slices.Compact(naming)
		l := []int{}
		for k, at := range p.at {
			if (len(naming) == 0 || slices.Equal(naming, p.owner[k:k+1])) && d.n(3) == 0 {
				l = append([]int{at}, l...)
			}
		}
		p.m.Tables = append(p.m.Tables, l[:min(len(l), api.MaxTable)])
	}
}

// beginnings of blocks, as the chapter says them (P4.2), one instruction at a time.
func (p drawn) beginnings() []int {
	var l []int
	for k, at := range p.at {
		begins := k == 0 || p.owner[k] != p.owner[k-1] || slices.ContainsFunc(p.m.Tables, func(l []int) bool { return slices.Contains(l, at) })
		if k > 0 {
			switch p.list[k-1].Kind {
			case api.Halt, api.Trap, api.Ret, api.Table, api.Jump, api.Beq, api.Bne, api.Blt, api.Bge:
				begins = true
			}
		}
		for j, i := range p.list {
			begins = begins || i.Kind >= api.Beq && i.Kind <= api.Jump && p.to[j] == k
		}
		if begins {
			l = append(l, at)
		}
	}
	return l
}

// P4.2: the blocks of drawn programs begin where the chapter says.
func TestDrawnBeginnings(t *testing.T) {
	d := die(1)
	for range 2000 {
		p := d.program()
		begin(t, fmt.Sprint(p.list, p.m.Tables), p.m, p.beginnings()...)
	}
}

// written: the text of a flow's blocks, one behind the other, as Ends, To, Else and a Call's N say it; as told by m only which are Long.
func written(m api.Image, f api.Flow) []byte {
	var text []byte
	for _, b := range f.Blocks {
		l := slices.Clone(b.Code)
		for k, i := range l {
			if i.Kind == api.Call {
				l[k].N = m.Funcs[i.N].Start - b.At[k]
			}
		}
		at := b.At[len(b.At)-1]
		was, _, _ := isa.Decode(m.Text, at)
		switch b.Ends {
		case api.Chance:
			i := b.Last
			i.N, i.Long = f.Blocks[b.To].Start-at, was.Long
			l = append(l, i)
		case api.Jumps:
			l = append(l, api.Instr{Kind: api.Jump, N: f.Blocks[b.To].Start - at, Long: was.Long})
		}
		text = append(text, code(l...)...)
	}
	return text
}

// sound: a flow tells the whole program, and nothing else (P4.2, P4.3, P4.4).
func sound(m api.Image, f api.Flow) string {
	if !bytes.Equal(written(m, f), m.Text) {
		return "another text"
	}
	for n, b := range f.Blocks {
		own := m.Funcs[b.Func]
		fallsTo := n + 1
		switch {
		case b.Start != b.At[0] || b.Start < own.Start || b.Start >= own.Start+own.Size:
			return fmt.Sprint("block ", n, " begins elsewhere")
		case b.Ends == api.Falls && b.To != fallsTo, b.Ends == api.Chance && b.Else != fallsTo:
			return fmt.Sprint("block ", n, " has another one next")
		case b.Ends != api.Chance && (b.Else != 0 || b.Last != api.Instr{}), b.Ends == api.Stops && b.To != 0:
			return fmt.Sprint("block ", n, " has more than it should")
		case len(b.Lines) != len(b.Code)+1:
			return fmt.Sprint("block ", n, " has ", len(b.Lines), " lines")
		}
		for k, line := range b.Lines {
			if line != image.LineAt(m, b.At[min(k, len(b.At)-1)]) {
				return fmt.Sprint("block ", n, " has another line at ", k)
			}
		}
	}
	for k, l := range m.Tables {
		for j, at := range l {
			if f.Blocks[f.Tables[k][j]].Start != at {
				return fmt.Sprint("table ", k, " has another block at ", j)
			}
		}
	}
	for k, n := range f.Firsts {
		if f.Blocks[n].Start != m.Funcs[k].Start {
			return fmt.Sprint("function ", k, " has another first block")
		}
	}
	if len(f.Tables) != len(m.Tables) || len(f.Firsts) != len(m.Funcs) {
		return "more, or fewer, Tables or Firsts"
	}
	return ""
}

// P4.2, P4.3, P4.4: the flow of drawn programs is sound, and so is that of such in which a byte is another one, if it can be followed still.
func TestDrawnSound(t *testing.T) {
	d := die(2)
	taken, left := 0, 0
	for range 4000 {
		m := d.program().m
		if what := sound(m, recovered(t, fmt.Sprint(m), m)); what != "" {
			t.Errorf("%v: %s", m, what)
		}
		m.Text[d.n(len(m.Text))] = byte([]int{0, 3, 0x60, 0x51, 0x62, 0x63, d.n(8), d.n(256)}[d.n(8)])
		f, e := flow.Recover(m)
		switch e {
		case api.OK:
			taken++
			if what := sound(m, f); what != "" {
				t.Errorf("%v: %s", m, what)
			}
		case api.ErrCode:
			left++
		default:
			t.Errorf("%v: Recover = %v", m, e)
		}
	}
	if taken < 500 || left < 500 {
		t.Errorf("%d were taken, %d were left", taken, left)
	}
}

// blockAt: the block in which an instruction stands, and its place there; -1: there is none.
func blockAt(f api.Flow, at int) (int, int) {
	for n, b := range f.Blocks {
		if k := slices.Index(b.At, at); k >= 0 {
			return n, k
		}
	}
	return -1, -1
}

// P4.5: a program that runs goes on, behind the last instruction of a block, to the Start of one of its Nexts, and else to the next instruction.
func TestDrawnRuns(t *testing.T) {
	d := die(3)
	ways := 0
	for range 1000 {
		m := d.program().m
		f := recovered(t, fmt.Sprint(m), m)
		in := []int{d.n(3), d.n(3), d.n(3)}
		for fuel := range 40 {
			here, _ := step.Run(m, in, fuel)
			next, _ := step.Run(m, in, fuel+1)
			if next.Steps <= fuel {
				break
			}
			n, k := blockAt(f, here.At)
			to, first := blockAt(f, next.At)
			if n < 0 || to < 0 {
				t.Fatalf("%v: from %d to %d, outside of all blocks", m, here.At, next.At)
			}
			if i, _, _ := isa.Decode(m.Text, here.At); i.Kind == api.Call || i.Kind == api.Ret {
				continue
			}
			b := f.Blocks[n]
			nexts, e := flow.Nexts(f, n)
			switch {
			case k < len(b.At)-1:
				if to != n || first != k+1 {
					t.Fatalf("%v: from %d to %d, within block %d", m, here.At, next.At, n)
				}
			case e != api.OK || first != 0 || !slices.Contains(nexts, to):
				t.Fatalf("%v: from %d to %d, but the Nexts of block %d are %v", m, here.At, next.At, n, nexts)
			default:
				ways++
			}
		}
	}
	if ways < 3000 {
		t.Errorf("only %d ways were gone", ways)
	}
}

// P4.1: whatever the bytes are, the call ends, and what can be followed is sound.
func TestDrawnBytes(t *testing.T) {
	d := die(5)
	taken := 0
	for range 20000 {
		b := make([]byte, 1+d.n(6))
		for k := range b {
			b[k] = []byte{0, 1, 2, 3, 0x60, 0x63, 0x41, 0x50, byte(d.n(256))}[d.n(9)]
		}
		m := withTables(texts(b), []int{d.n(len(b))})
		if f, e := flow.Recover(m); e == api.OK {
			taken++
			if what := sound(m, f); what != "" {
				t.Errorf("%v: %s", m, what)
			}
		}
	}
	if taken < 500 {
		t.Errorf("only %d were taken", taken)
	}
}
