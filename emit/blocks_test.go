package emit_test

import (
	"fmt"
	"slices"
	"testing"

	"bolthole/api"
)

var branches = []struct{ kind, opposite int }{{api.Beq, api.Bne}, {api.Bne, api.Beq}, {api.Blt, api.Bge}, {api.Bge, api.Blt}}

// P7.2: a block that Falls has a new Jump, unless the next one is the one to which it does.
func TestFalls(t *testing.T) {
	b := branch(api.Beq, 1, 2, -2)
	m := program(out(1), out(2), b, halt)
	emits(t, "as it stood", m, only(0, 1, 2), m, pairs(0, 0, 2, 2, 4, 4, 7, 7))
	emits(t, "another one is next", m, only(0, 2, 1), program(out(1), jump(3), halt, out(2), b, jump(-6)), pairs(0, 0, 2, 5, 4, 7, 7, 4))
	m = withTables(program(nop, trap, nop, halt), []int{3}) // blocks 0: 0, 1; 1: 2; 2: 3
	emits(t, "it is the last one", m, only(0, 2, 1), withTables(program(nop, trap, halt, nop, jump(-2)), []int{2}), pairs(0, 0, 1, 1, 2, 3, 3, 2))
	m = withTables(program(jump(4), nop, nop, nop, halt), []int{3, 4, 5}) // blocks 0: 0; 1: 2; 2: 3; 3: 4; 4: 5
	want := withTables(program(nop, jump(6), nop, nop, jump(-5), halt), []int{4, 0, 7})
	emits(t, "several", m, only(0, 3, 1, 2, 4), want, pairs(2, 3, 3, 4, 4, 0, 5, 7))
}

// P7.2: a block that Jumps keeps its Jump, unless the next one is the one to which it does; then that is left out.
func TestJumps(t *testing.T) {
	m := program(out(1), jump(5), out(2), trap, out(3), halt) // blocks 0: 0, 2; 1: 4, 6; 2: 7, 9
	emits(t, "as it stood", m, only(0, 1, 2), m, pairs(0, 0, 2, 2, 4, 4, 6, 6, 7, 7, 9, 9))
	emits(t, "left out", m, only(0, 2, 1), program(out(1), out(3), halt, out(2), trap), pairs(0, 0, 4, 5, 6, 7, 7, 2, 9, 4))
	m = program(out(1), jump(-2))
	emits(t, "back to itself", m, only(0), m, pairs(0, 0, 2, 2))
	m = program(nop, jump(3), trap, out(3), jump(-6)) // blocks 0: 0, 1; 1: 3; 2: 4, 6
	emits(t, "the last one", m, only(0, 2, 1), program(nop, out(3), jump(-3), trap), pairs(0, 0, 3, 5, 4, 1, 6, 3))
	m = program(jump(3), trap, jump(-1), halt) // blocks 0: 0; 1: 2; 2: 3; 3: 5
	emits(t, "back to one ahead", m, only(0, 1, 2, 3), m, pairs(0, 0, 2, 2, 3, 3, 5, 5))
	emits(t, "back to one that is next", m, only(0, 2, 1, 3), program(trap, halt), pairs(2, 0, 5, 1))
	emits(t, "back to one that is farther on", m, only(0, 3, 2, 1), program(jump(3), halt, trap), pairs(0, 0, 2, 3, 5, 2))
}

// P7.2: blocks of which nothing is left: they begin where the next one does.
func TestEmptyBlocks(t *testing.T) {
	m := withTables(program(branch(api.Blt, 1, 2, 5), jump(2), halt), []int{3, 5, 0}) // blocks 0: 0; 1: 3; 2: 5
	emits(t, "between", m, only(0, 1, 2), withTables(program(branch(api.Blt, 1, 2, 3), halt), []int{3, 3, 0}), pairs(0, 0, 5, 3))
	m = withTables(program(jump(2), long(jump(3)), jump(2), out(1), ret), []int{5, 7, 2, 0}) // blocks 0: 0; 1: 2; 2: 5; 3: 7, 9
	emits(t, "several", m, only(0, 1, 2, 3), withTables(program(out(1), ret), []int{0, 0, 0, 0}), pairs(7, 0, 9, 2))
	emits(t, "some of several", m, only(0, 1, 3, 2), withTables(program(jump(5), out(1), ret, jump(-3)), []int{5, 2, 0, 0}), pairs(2, 0, 5, 5, 7, 2, 9, 4))
	m = program(jump(4), jump(2), halt) // blocks 0: 0; 1: 2; 2: 4
	emits(t, "nothing but such a one is between", m, only(0, 1, 2), program(jump(2), halt), pairs(0, 0, 4, 2))
	m = texts(code(jump(2), ret), code(call(-3), jump(2), halt)) // blocks 0: 0; 1: 2 | 2: 3, 6; 3: 8
	want := texts(code(ret), code(call(-1), halt))
	emits(t, "the first one of a function", m, []api.Part{part(0, 0, 1), part(1, 2, 3)}, want, pairs(2, 0, 3, 1, 8, 4))
}

// P7.2: a Chance whose Else is next has its branch; whose To is next the opposite one, to Else; else its branch and a new Jump.
func TestChance(t *testing.T) {
	for _, c := range branches {
		is, not := func(n int) api.Instr { return branch(c.kind, 1, 2, n) }, func(n int) api.Instr { return branch(c.opposite, 1, 2, n) }
		m := program(is(4), trap, halt)
		what := fmt.Sprint("Kind ", c.kind, ": ")
		emits(t, what+"Else is next", m, only(0, 1, 2), m, pairs(0, 0, 3, 3, 4, 4))
		emits(t, what+"To is next", m, only(0, 2, 1), program(not(4), halt, trap), pairs(0, 0, 3, 4, 4, 3))
		m = program(is(5), trap, ret, halt)
		emits(t, what+"neither is next", m, only(0, 2, 1, 3), program(is(7), jump(3), ret, trap, halt), pairs(0, 0, 3, 6, 4, 5, 5, 7))
		emits(t, what+"neither is next, To is ahead of Else", m, only(0, 2, 3, 1), program(is(6), jump(4), ret, halt, trap), pairs(0, 0, 3, 7, 4, 5, 5, 6))
		m = program(jump(3), halt, is(-1), trap) // blocks 0: 0; 1: 2; 2: 3; 3: 6
		emits(t, what+"the last one", m, only(0, 1, 3, 2), program(jump(4), halt, trap, is(-2), jump(-4)), pairs(0, 0, 2, 2, 3, 4, 6, 3))
		emits(t, what+"To was ahead, and is next", m, only(0, 2, 1, 3), program(not(4), halt, trap), pairs(2, 3, 3, 0, 6, 4))
	}
}

// P7.2: a branch that leads to the next block, or to its own.
func TestChanceOfOne(t *testing.T) {
	for _, c := range branches {
		is, not := func(n int) api.Instr { return branch(c.kind, 3, 3, n) }, func(n int) api.Instr { return branch(c.opposite, 3, 3, n) }
		what := fmt.Sprint("Kind ", c.kind, ": ")
		m := program(is(3), out(1), halt, trap) // blocks 0: 0; 1: 3, 5; 2: 6
		emits(t, what+"To and Else are next", m, only(0, 1, 2), m, pairs(0, 0, 3, 3, 5, 5, 6, 6))
		emits(t, what+"To and Else are not next", m, only(0, 2, 1), program(is(6), jump(3), trap, out(1), halt), pairs(0, 0, 3, 6, 5, 8, 6, 5))
		m = program(is(0), halt, trap)
		emits(t, what+"to itself", m, only(0, 1, 2), m, pairs(0, 0, 3, 3, 4, 4))
		emits(t, what+"to itself, Else is not next", m, only(0, 2, 1), program(is(0), jump(3), trap, halt), pairs(0, 0, 3, 6, 4, 5))
		m = program(nop, trap, is(-2), halt) // blocks 0: 0, 1; 1: 2; 2: 5
		emits(t, what+"to the first block, which is never next", m, only(0, 2, 1), program(nop, trap, halt, is(-3), jump(-4)), pairs(0, 0, 1, 1, 2, 3, 5, 2))
		m = program(trap, is(5), jump(-3), halt) // blocks 0: 0; 1: 1; 2: 4; 3: 6
		emits(t, what+"to one behind a Jump", m, only(0, 1, 3, 2), program(trap, not(4), halt, jump(-4)), pairs(0, 0, 1, 1, 4, 5, 6, 4))
	}
}

// P7.2: a block that Stops has nothing behind its Code, whatever is next; all operands are kept.
func TestStops(t *testing.T) {
	body := []api.Instr{
		li(1, -32768), addi(2, 3, -128), {Kind: api.Add, D: 1, A: 2, B: 3}, {Kind: api.Sub, D: 4, A: 5, B: 6}, {Kind: api.Mul, D: 7, A: 1, B: 2},
		{Kind: api.And, D: 3, A: 4, B: 5}, {Kind: api.Or, D: 6, A: 7, B: 0}, {Kind: api.Xor, D: 1, A: 3, B: 5}, {Kind: api.Slt, D: 7, A: 5, B: 3},
		{Kind: api.Load, D: 1, A: 2, N: 127}, {Kind: api.Store, A: 3, B: 4, N: -128}, {Kind: api.In, D: 5}, out(6), nop,
	}
	for _, last := range []api.Instr{halt, trap, ret, table(7, 19)} {
		blocks := [][]api.Instr{list(li(1, 1), last), list(body, last), list(li(2, 2), last)}
		m := program(slices.Concat(blocks...)...)
		for _, order := range [][]int{{0, 1, 2}, {0, 2, 1}} {
			x, _ := emitted(t, "Stops", m, only(order...))
			if want := program(list(blocks[0], blocks[order[1]], blocks[order[2]])...); !same(x, want) {
				t.Errorf("Kind %d, %v: Emit = %v, want %v", last.Kind, order, x, want)
			}
		}
	}
}

// P7.2: what is told of a block has its Lines, a new Jump the last one of them, the branch or the Jump that ended it its own.
func TestLinesOfBlocks(t *testing.T) {
	line := func(at, n int) api.Line { return api.Line{At: at, N: n} }
	m := withTables(program(out(1), out(2), nop, nop, halt), []int{4, 5}) // blocks 0: 0, 2; 1: 4; 2: 5, 6
	m.Lines = []api.Line{line(0, 7), line(2, 8), line(4, 9), line(5, 3), line(6, 4)}
	want := withTables(program(out(1), out(2), jump(4), nop, halt, nop, jump(-3)), []int{8, 6})
	want.Lines = []api.Line{line(0, 7), line(2, 8), line(6, 3), line(7, 4), line(8, 9)}
	emits(t, "Falls", m, only(0, 2, 1), want, pairs(0, 0, 2, 2, 4, 8, 5, 6, 6, 7))

	m = program(out(1), branch(api.Beq, 1, 2, 5), trap, ret, halt) // blocks 0: 0, 2; 1: 5; 2: 6; 3: 7
	m.Lines = []api.Line{line(0, 1), line(2, 2), line(5, 5), line(6, 6), line(7, 7)}
	want = program(out(1), branch(api.Beq, 1, 2, 6), jump(4), ret, halt, trap)
	want.Lines = []api.Line{line(0, 1), line(2, 2), line(7, 6), line(8, 7), line(9, 5)}
	emits(t, "Chance", m, only(0, 2, 3, 1), want, pairs(0, 0, 2, 2, 5, 9, 6, 7, 7, 8))
	want = program(out(1), branch(api.Bne, 1, 2, 5), halt, ret, trap)
	want.Lines = []api.Line{line(0, 1), line(2, 2), line(5, 7), line(6, 6), line(7, 5)}
	emits(t, "Chance, turned round", m, only(0, 3, 2, 1), want, pairs(0, 0, 2, 2, 5, 7, 6, 6, 7, 5))

	m = program(out(1), jump(3), trap, halt) // blocks 0: 0, 2; 1: 4; 2: 5
	m.Lines = []api.Line{line(0, 1), line(2, 2), line(4, 3), line(5, 4)}
	emits(t, "Jumps", m, only(0, 1, 2), m, pairs(0, 0, 2, 2, 4, 4, 5, 5))
	want = program(out(1), halt, trap)
	want.Lines = []api.Line{line(0, 1), line(2, 4), line(3, 3)}
	emits(t, "Jumps, left out", m, only(0, 2, 1), want, pairs(0, 0, 4, 3, 5, 2))
}
