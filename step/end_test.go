package step_test

import (
	"fmt"
	"slices"
	"testing"

	"bolthole/api"
	"bolthole/isa"
	"bolthole/step"
)

// P3.4: Spent is told ahead of all other ends.
func TestSpentFirst(t *testing.T) {
	for _, m := range []api.Image{
		program(halt), program(trap), program(ret), program(nop), text([]byte{0xff}), text([]byte{0x10}),
		program(load(0, 0, 0)), program(table(0, 0)),
	} {
		runs(t, fmt.Sprint("no fuel: ", m.Text), m, nil, 0, api.Run{End: api.Spent})
		behind := text(append([]byte{0x03, 0x03}, m.Text...))
		runs(t, fmt.Sprint("fuel to here: ", behind.Text), behind, nil, 2, api.Run{End: api.Spent, Steps: 2, At: 2})
	}
	runs(t, "out of the text", program(nop), nil, 1, api.Run{End: api.Spent, Steps: 1, At: 1})
	runs(t, "one more would do", program(nop), nil, 2, api.Run{End: api.Trapped, Steps: 1, At: 1})
}

// P3.4: Halted, with the fuel for one step more than were done at least.
func TestHalted(t *testing.T) {
	m := program(li(1, 5), out(1), halt)
	runs(t, "spent", m, nil, 2, api.Run{Told: []int{5}, End: api.Spent, Steps: 2, At: 6})
	for _, fuel := range []int{3, 4, api.MaxFuel} {
		runs(t, "halted", m, nil, fuel, api.Run{Told: []int{5}, End: api.Halted, Steps: 2, At: 6})
	}
}

// P3.4: Trapped where no instruction stands, and by a Trap.
func TestTrapped(t *testing.T) {
	ends(t, "Trap", program(nop, trap, halt), api.Trapped, 1, 1)
	for _, b := range [][]byte{{0x04}, {0x70}, {0xff}, {0x10, 0, 0}, {0x60}, {0x41}, {0x10, 8, 0, 0}, {0x20, 0, 8}, {0x41, 8}, {0x63, 0, 20}} {
		ends(t, fmt.Sprint(b), text(b), api.Trapped, 0, 0)
		ends(t, fmt.Sprint("behind others: ", b), text(append([]byte{0x41, 0x00}, b...)), api.Trapped, 1, 2, 0)
	}
	ends(t, "behind the text", program(nop, out(1)), api.Trapped, 2, 3, 0)
}

// P3.4: Trapped outside of the text, however far; that is where it is then.
func TestTrappedOutside(t *testing.T) {
	for _, i := range []api.Instr{
		jump(-1), jump(-128), jump(127), long(jump(-32768)), long(jump(32767)), call(-32768), call(32767),
		branch(api.Beq, 1, 2, -7), branch(api.Bge, 1, 2, 100), long(branch(api.Beq, 1, 2, -32768)), long(branch(api.Bge, 1, 2, 32767)),
	} {
		ends(t, fmt.Sprint(i), program(i), api.Trapped, 1, i.N)
	}
	m := program(call(4), nop, call(-5))
	m.Funcs = []api.Func{{Name: "a", Size: 4}, {Name: "b", Start: 4, Size: 3}}
	ends(t, "a Call out of the text", m, api.Trapped, 2, -1)
	ends(t, "a Ret behind the text", program(jump(3), ret, call(-1)), api.Trapped, 3, 6)
}

// withAddress: a program that is at an instruction at 9 after three steps; registers 3 and 7, and the first word of memory, have an address then.
func withAddress(i api.Instr) api.Image {
	return withTables(withData(program(call(3), store(7, 0, 0), load(3, 0, 0), i, nop, nop, nop), 1, 2, 3), []int{12})
}

// P3.4: Guarded, where an address is needed as a number.
func TestGuarded(t *testing.T) {
	l := []api.Instr{addi(1, 3, 0), out(3), load(1, 3, 0), store(1, 3, 0), table(3, 0), addi(3, 3, 0), load(3, 3, 0), store(3, 3, 0)}
	for kind := api.Add; kind <= api.Slt; kind++ {
		l = append(l, op(kind, 1, 3, 0), op(kind, 1, 0, 3), op(kind, 1, 3, 3), op(kind, 3, 3, 7))
	}
	for kind := api.Beq; kind <= api.Bge; kind++ {
		l = append(l, branch(kind, 3, 0, 0), branch(kind, 0, 3, 0), branch(kind, 3, 3, 0), branch(kind, 7, 3, 0))
		l = append(l, long(branch(kind, 3, 0, 0)), long(branch(kind, 0, 3, 0)))
	}
	for _, i := range l {
		ends(t, fmt.Sprint(i), withAddress(i), api.Guarded, 3, 9)
	}
}

// P3.4: a Ret without an address in the last register.
func TestGuardedRet(t *testing.T) {
	ends(t, "at first", program(ret), api.Guarded, 0, 0)
	ends(t, "a number", program(li(7, 0), ret), api.Guarded, 1, 4)
	ends(t, "the address of an instruction, as a number", program(li(7, 5), ret, halt), api.Guarded, 1, 4)
	m := withData(program(call(3), store(7, 0, 0), load(6, 0, 0), li(7, 0), ret), 1)
	ends(t, "an address in the last register but one", m, api.Guarded, 4, 13)
}

// P3.4: what is not needed as a number may be an address.
func TestNotGuarded(t *testing.T) {
	for _, i := range []api.Instr{
		li(3, 1), addi(3, 0, 1), op(api.Add, 3, 0, 0), load(3, 0, 0), load(3, 0, 1), store(3, 0, 2), input(3),
		call(3), jump(2), nop, table(0, 0),
	} {
		size, _ := isa.Size(i)
		at := 9 + size
		if i.Kind == api.Table {
			at = 12
		}
		runs(t, fmt.Sprint(i), withAddress(i), nil, 4, api.Run{End: api.Spent, Steps: 4, At: at})
	}
}

// P3.4: Trapped, as there is no such word of memory.
func TestTrappedMemory(t *testing.T) {
	for _, i := range []api.Instr{load(1, 0, -1), load(1, 0, 4), load(1, 0, 127), load(1, 0, -128), store(1, 0, -1), store(1, 0, 4)} {
		ends(t, fmt.Sprint(i), withData(program(nop, i), 1, 2, 3, 4), api.Trapped, 1, 1)
	}
	for _, a := range []int{-api.MaxInt, -4, -1, 0, 1, 5, api.MaxInt} {
		for _, n := range []int{-2, 0, 3} {
			for _, i := range []api.Instr{load(2, 1, n), store(2, 1, n)} {
				want := api.Run{End: api.Spent, Steps: 2, At: 5}
				if a+n < 0 || a+n > 3 {
					want = api.Run{End: api.Trapped, Steps: 1, At: 2}
				}
				runs(t, fmt.Sprint(i, " at ", a), withData(program(input(1), i), 1, 2, 3, 4), []int{a}, 2, want)
			}
		}
	}
	ends(t, "no memory: Load", program(load(1, 0, 0)), api.Trapped, 0, 0)
	ends(t, "no memory: Store", program(store(1, 0, 0)), api.Trapped, 0, 0)
}

// P3.4: Trapped, as there is no such Table, or no such address in it.
func TestTrappedTable(t *testing.T) {
	tables := [][]int{{4, 4}, {}, {4}}
	for _, c := range []struct {
		a, n  int
		there bool
	}{
		{0, 0, true}, {1, 0, true}, {2, 0, false}, {-1, 0, false}, {api.MaxInt, 0, false}, {-api.MaxInt, 0, false},
		{0, 1, false}, {-1, 1, false}, {0, 2, true}, {1, 2, false}, {0, 3, false}, {0, 19, false},
	} {
		want := api.Run{End: api.Trapped, Steps: 1, At: 2}
		if c.there {
			want = api.Run{End: api.Spent, Steps: 2, At: 4}
		}
		m := withTables(program(input(1), table(1, c.n)), tables...)
		runs(t, fmt.Sprintf("%+v", c), m, []int{c.a}, 2, want)
	}
	ends(t, "no tables", program(table(0, 0)), api.Trapped, 0, 0)
}

// P3.4: Guarded is told ahead of what is not there.
func TestGuardedFirst(t *testing.T) {
	for _, i := range []api.Instr{load(1, 3, 127), load(1, 3, -128), store(1, 3, 127), table(3, 1), table(3, 19)} {
		ends(t, fmt.Sprint(i), withAddress(i), api.Guarded, 3, 9)
	}
	ends(t, "no such word, and an address to be stored", withAddress(store(3, 0, 3)), api.Trapped, 3, 9)
}

// drawnText: bytes that look drawn, most of them such that instructions begin so.
func drawnText(next func(int) int) []byte {
	firsts := code(nop, li(0, 0), addi(0, 0, 0), out(0), input(0), jump(0), call(0), table(0, 0), ret, load(0, 0, 0), store(0, 0, 0),
		op(api.Mul, 0, 0, 0), branch(api.Blt, 0, 0, 0), long(branch(api.Bne, 0, 0, 0)))
	b := make([]byte, 1+next(60))
	for k := range b {
		switch next(3) {
		case 0:
			b[k] = firsts[next(len(firsts))]
		case 1:
			b[k] = byte(next(8)<<4 | next(8))
		default:
			b[k] = byte(next(256))
		}
	}
	return b
}

// P3.4, P3.5: whatever the bytes are, with more fuel the run goes on as it did; what has ended stays so.
func TestMoreFuel(t *testing.T) {
	state := uint64(11)
	next := func(most int) int {
		state = state*6364136223846793005 + 1442695040888963407
		return int((state >> 33) % uint64(most))
	}
	seen := map[int]int{}
	for range 2000 {
		b := drawnText(next)
		m := withTables(withData(text(b), 1, 2, api.MaxInt), []int{next(len(b)), next(len(b))}, []int{})
		in := []int{next(9), -next(9)}
		ahead := api.Run{End: api.Spent}
		for fuel := range 40 {
			r, e := step.Run(m, in, fuel)
			switch {
			case e != api.OK || r.Steps > fuel || len(r.Told) > r.Steps:
				t.Fatalf("%v, fuel %d: %+v, %v", b, fuel, r, e)
			case (r.End == api.Spent) != (r.Steps == fuel):
				t.Fatalf("%v, fuel %d: %+v, %v", b, fuel, r, e)
			case ahead.End != api.Spent && !same(ahead, r):
				t.Fatalf("%v, fuel %d: %+v, ahead %+v", b, fuel, r, ahead)
			case !slices.Equal(ahead.Told, r.Told[:min(len(ahead.Told), len(r.Told))]):
				t.Fatalf("%v, fuel %d: %+v, ahead %+v", b, fuel, r, ahead)
			}
			ahead = r
		}
		seen[ahead.End]++
	}
	for end := api.Halted; end <= api.Guarded; end++ {
		if seen[end] < 10 {
			t.Errorf("only %d ended so: %d", seen[end], end)
		}
	}
}
