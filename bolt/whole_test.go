package bolt_test

import (
	"bytes"
	"slices"
	"testing"

	"bolthole/api"
	"bolthole/bolt"
	"bolthole/emit"
	"bolthole/image"
	"bolthole/isa"
	"bolthole/place"
	"bolthole/step"
	"bolthole/tally"
)

// byLayers: what comes out, layer by layer, of a program that is not refused, and its pairs.
func byLayers(t *testing.T, m api.Image, s string) ([]byte, []api.Pair) {
	t.Helper()
	f := flowOf(t, m)
	l, e := tally.Read(s)
	if e == api.OK {
		l, e = tally.Map(f, l)
	}
	if e != api.OK {
		l = nil
	}
	parts, e := place.Order(f, l)
	if e != api.OK {
		t.Fatalf("%v, %q: Order = %v", m, s, e)
	}
	x, moved, e := emit.Emit(m, parts)
	if e != api.OK {
		t.Fatalf("%v, %q: Emit = %v", m, s, e)
	}
	return raw(x), moved
}

// P8.1: drawn programs with drawn tallies, layer by layer.
func TestDrawnLayers(t *testing.T) {
	d := die(1)
	moved := 0
	for range 3000 {
		m := d.program(4, 14, []int{0, 0, 3, 40}[d.n(4)])
		s := d.tally(m, flowOf(t, m), d.inputs())
		want, _ := byLayers(t, m, s)
		c, e := bolt.Optimize(raw(m), s)
		if e != api.OK || !bytes.Equal(c, want) {
			t.Fatalf("Optimize(%v, %q) = %v, %v, want\n%v", m, s, c, e, want)
		}
		if still, _ := bolt.Optimize(raw(m), ""); !bytes.Equal(c, still) {
			moved++
		}
	}
	if moved < 1000 {
		t.Errorf("only %d were moved by their tallies", moved)
	}
}

// doesTheSame: a program beside the one that it came from, with some inputs and up to so many steps: how the first one ended.
func doesTheSame(t *testing.T, m, x api.Image, inputs []int, fuel int) int {
	t.Helper()
	was, _ := step.Run(m, inputs, fuel)
	if was.End == api.Guarded {
		return was.End
	}
	now, e := step.Run(x, inputs, 3*was.Steps+3)
	if e != api.OK || len(now.Told) < len(was.Told) || !slices.Equal(now.Told[:len(was.Told)], was.Told) {
		t.Fatalf("%v, by\n%v,\nwith %v: it was %v, it is %v, %v", m, x, inputs, was, now, e)
	}
	if was.End != api.Spent && (now.End != was.End || len(now.Told) != len(was.Told)) {
		t.Fatalf("%v, by\n%v,\nwith %v: it was %v, it is %v", m, x, inputs, was, now)
	}
	return was.End
}

// P8.2: drawn programs do the same, whatever drawn tallies say, with the inputs by which they were told, and with others.
func TestDrawnRuns(t *testing.T) {
	d := die(2)
	ends := map[int]int{}
	for range 8000 {
		m := d.program(3, 14, 2)
		inputs := d.inputs()
		x := optimized(t, m, d.tally(m, flowOf(t, m), inputs))
		ends[doesTheSame(t, m, x, inputs, 1000)]++
		ends[doesTheSame(t, m, x, d.inputs(), d.n(80))]++
	}
	if ends[api.Halted] < 1000 || ends[api.Trapped] < 1000 || ends[api.Spent] < 1000 {
		t.Errorf("they ended so: %v", ends)
	}
}

// P8.2: a program without end does the same for nearly as many steps as may be, whatever is told of it: what it goes, or what it never goes.
func TestManySteps(t *testing.T) {
	m := program(addi(1, 1, 1), out(1), branch(api.Beq, 0, 0, 5), trap, nop, branch(api.Bne, 0, 0, 4), nop, jump(-14))
	const fuel = (api.MaxFuel - 3) / 3
	for _, s := range []string{
		"", taken(m, nil, 60), "5 8 1\n", "5 8 1\n10 14 1\n", "10 14 9\n14 0 8\n", "10 14 9\n13 14 8\n5 10 1\n", "9 10 9\n10 14 8\n", "9 10 9\n5 8 8\n10 13 7\n",
	} {
		if end := doesTheSame(t, m, optimized(t, m, s), nil, fuel); end != api.Spent {
			t.Errorf("%q: it ended so: %v", s, end)
		}
	}
}

// P8.2: a program by whose tally it goes over new Jumps at each turn takes more steps, and does the same.
func TestMoreSteps(t *testing.T) {
	m := program(li(1, 3), out(1), branch(api.Beq, 1, 0, 10), addi(1, 1, -1), branch(api.Bge, 1, 0, -8), trap, halt)
	was, _ := step.Run(m, nil, 100)
	more := 0
	for _, s := range []string{"", taken(m, nil, 60), "6 16 1\n", "12 15 9\n", "6 16 5\n12 15 4\n", "6 16 5\n4 6 9\n12 4 1\n"} {
		x := optimized(t, m, s)
		if end := doesTheSame(t, m, x, nil, 100); end != api.Halted {
			t.Errorf("%q: it ended so: %v", s, end)
		}
		if now, _ := step.Run(x, nil, 100); now.Steps > was.Steps {
			more++
		}
	}
	if more < 2 {
		t.Errorf("%d took more steps", more)
	}
}

// instructions of a program, one behind the other, and their addresses.
func instructions(t *testing.T, m api.Image) ([]api.Instr, []int) {
	t.Helper()
	var l []api.Instr
	var addresses []int
	for at := 0; at < len(m.Text); {
		i, size, e := isa.Decode(m.Text, at)
		if e != api.OK {
			t.Fatalf("%v: at %d: %v", m, at, e)
		}
		l, addresses = append(l, i), append(addresses, at)
		at += size
	}
	return l, addresses
}

// kept instructions of a program: all but branches, Jumps and Calls, which are other ones if they are moved.
func kept(t *testing.T, m api.Image) []api.Instr {
	t.Helper()
	l, _ := instructions(t, m)
	return slices.DeleteFunc(l, func(i api.Instr) bool { return leads(i) || i.Kind == api.Call })
}

// P8.3: without edges all functions and blocks stand as they stood, whether there is no tally, or it is refused, or none of it fits.
func TestDrawnAsTheyStood(t *testing.T) {
	d := die(3)
	for range 2000 {
		m := d.program(5, 14, d.n(3))
		bad := badTallies()
		for _, s := range []string{"", bad[d.n(len(bad))], "2000 0 5\n0 2000 5\n", told(d.fitting(flowOf(t, m))) + "0"} {
			x := optimized(t, m, s)
			if !slices.Equal(kept(t, x), kept(t, m)) || x.Entry != m.Entry || len(x.Funcs) != len(m.Funcs) {
				t.Fatalf("Optimize(%v, %q) =\n%v", m, s, x)
			}
			for k, f := range x.Funcs {
				if f.Name != m.Funcs[k].Name {
					t.Fatalf("Optimize(%v, %q) =\n%v: function %d", m, s, x, k)
				}
			}
		}
	}
}

// P8.3: without edges a program without Jumps, all of whose branches are short, is as it was.
func TestDrawnUnmoved(t *testing.T) {
	d := die(4)
	seen := 0
	for range 6000 {
		m := d.program(4, 10, d.n(3))
		l, addresses := instructions(t, m)
		if slices.ContainsFunc(l, func(i api.Instr) bool { return i.Kind == api.Jump || i.Long }) {
			continue
		}
		seen++
		m.Lines = nil
		for k, at := range addresses {
			m.Lines = append(m.Lines, api.Line{At: at, N: 1 + k})
		}
		optimizes(t, "a drawn one", m, "", m)
	}
	if seen < 500 {
		t.Errorf("only %d had no Jumps", seen)
	}
}

// marks of a program: the line of each.
func marks(t *testing.T, m api.Image) map[int]int {
	t.Helper()
	lines := map[int]int{}
	l, addresses := instructions(t, m)
	for k, i := range l {
		if i.Kind == api.Li && i.D == marked {
			lines[i.N] = image.LineAt(m, addresses[k])
		}
	}
	return lines
}

// P8.3: each instruction that is there still has the line that it had.
func TestDrawnLines(t *testing.T) {
	d := die(5)
	for range 3000 {
		m := d.program(4, 14, d.n(3))
		s := d.tally(m, flowOf(t, m), d.inputs())
		x := optimized(t, m, s)
		was, is := marks(t, m), marks(t, x)
		if len(was) != len(is) {
			t.Fatalf("Optimize(%v, %q) =\n%v: %d marks, want %d", m, s, x, len(is), len(was))
		}
		for mark, line := range was {
			if now, ok := is[mark]; !ok || now != line {
				t.Fatalf("Optimize(%v, %q) =\n%v: the mark %d is of line %d, want %d", m, s, x, mark, now, line)
			}
		}
		_, moved := byLayers(t, m, s)
		for _, p := range moved {
			if image.LineAt(m, p.Old) != image.LineAt(x, p.New) {
				t.Fatalf("Optimize(%v, %q) =\n%v: %v is of line %d, want %d", m, s, x, p, image.LineAt(x, p.New), image.LineAt(m, p.Old))
			}
		}
	}
}

// P8.3: whether drawn bytes are refused, and how, does not hang on the tally.
func TestDrawnRefused(t *testing.T) {
	d := die(6)
	counts := map[api.Errno]int{}
	bad := badTallies()
	for range 4000 {
		m := d.program(3, 10, 2)
		b := raw(m)
		for range 1 + d.n(2) {
			b[4+d.n(len(b)-4)] = byte(d.n(256) * d.n(2))
		}
		c, want := bolt.Optimize(b, "")
		counts[want]++
		for _, s := range []string{told(d.fitting(flowOf(t, m))), told(d.foolish(len(m.Text))), bad[d.n(len(bad))]} {
			c, e := bolt.Optimize(b, s)
			if e != want || want != api.OK && len(c) > 0 {
				t.Fatalf("Optimize(%v, %q) = %v, %v, want %v", b, s, c, e, want)
			}
		}
		if want != api.OK && len(c) > 0 {
			t.Fatalf("Optimize(%v) = %v, %v", b, c, want)
		}
	}
	if counts[api.OK] < 300 || counts[api.ErrCode] < 300 || counts[api.ErrShort] < 50 || counts[api.ErrOrder] < 50 {
		t.Errorf("they were refused so: %v", counts)
	}
}

// great: a program nearly as great as may be, nearly each instruction of which is a block that falls or branches to the ones behind it; groups of a branch and a nop stand from 400 on, four bytes each, so many of them.
func great() (api.Image, int) {
	l := slices.Repeat([]api.Instr{nop}, api.MaxTables*api.MaxTable)
	m := api.Image{Tables: make([][]int, api.MaxTables), Data: make([]int, api.MaxData)}
	for at := range l {
		m.Tables[at%api.MaxTables] = append(m.Tables[at%api.MaxTables], at)
	}
	groups := (api.MaxFirst - len(l) - 3) / 4
	for range groups {
		// Each branch leads to the one behind it, so that the nop between falls to a beginning.
		l = append(l, branch(api.Beq, 1, 2, 4), nop)
	}
	l = append(l, long(jump(0)))
	m.Text = code(l...)
	m.Funcs = []api.Func{{Name: "f", Size: len(m.Text)}}
	for at := range m.Text {
		m.Lines = append(m.Lines, api.Line{At: at, N: at})
	}
	return m, groups
}

// P8.3: a program nearly as great as may be, many of whose blocks are put far from where they stood, so that it grows: it is not refused, and does the same.
func TestGreatPrograms(t *testing.T) {
	m, groups := great()
	small := len(optimized(t, m, "").Text)
	d := die(7)
	for _, c := range []struct {
		apart int // so many groups are from one edge to the next one
		from  int // where in its group an edge begins
		to    int // where, counted from the beginning of that group, it ends
	}{{1, 0, 4}, {2, 0, 4}, {2, 3, 4}, {2, 0, 3}, {3, 0, 4}} {
		s := ""
		for k := 0; k < groups && len(s) < api.MaxTally-20; k += c.apart {
			at := api.MaxTables*api.MaxTable + 4*k
			s += told([]api.Edge{{From: at + c.from, To: at + c.to, Count: 1 + d.n(99)}})
		}
		x := optimized(t, m, s)
		if 10*len(x.Text) < 16*small {
			t.Errorf("%v: only %d bytes, it was %d", c, len(x.Text), small)
		}
		doesTheSame(t, m, x, nil, 3000)
	}
}
