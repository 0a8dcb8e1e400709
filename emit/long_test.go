package emit_test

import (
	"fmt"
	"testing"

	"bolthole/api"
)

// body of so many bytes, at least one, behind which nothing goes on.
func body(n int) []api.Instr { return list(nops(n-1), trap) }

// reads: the text of the program in that order is of these instructions.
func reads(t *testing.T, what string, m api.Image, l []api.Part, want ...api.Instr) {
	t.Helper()
	x, _ := emitted(t, what, m, l)
	if string(x.Text) != string(code(want...)) {
		t.Errorf("%s: the text is %v, want %v", what, x.Text, code(want...))
	}
}

// P7.3: a Jump, forward and back, up to where it can be short, and farther; whether it was Long does not matter.
func TestLongJumps(t *testing.T) {
	for n := 100; n < 150; n++ {
		what := fmt.Sprint("a Jump over ", n)
		forward := long(jump(3 + n))
		if n <= 125 {
			forward = jump(2 + n)
			reads(t, what, program(list(forward, body(n), halt)...), only(0, 1, 2), list(forward, body(n), halt)...)
		}
		reads(t, what, program(list(long(jump(3+n)), body(n), halt)...), only(0, 1, 2), list(forward, body(n), halt)...)
		back := long(jump(-n))
		if n <= 128 {
			back = jump(-n)
			reads(t, what+", back", program(list(nops(n), back)...), only(0), list(nops(n), back)...)
		}
		reads(t, what+", back", program(list(nops(n), long(jump(-n)))...), only(0), list(nops(n), back)...)
	}
}

// P7.3: a branch of each Kind, forward and back, and turned round, up to where it can be short, and farther.
func TestLongBranches(t *testing.T) {
	for _, c := range branches {
		for n := 100; n < 150; n++ {
			is, not := func(n int) api.Instr { return branch(c.kind, 4, 5, n) }, func(n int) api.Instr { return branch(c.opposite, 4, 5, n) }
			what := fmt.Sprintf("Kind %d over %d", c.kind, n)
			forward, turned := long(is(4+n)), long(not(4+n))
			if n <= 124 {
				forward, turned = is(3+n), not(3+n)
			}
			m := program(list(long(is(4+n)), body(n), halt)...)
			reads(t, what, m, only(0, 1, 2), list(forward, body(n), halt)...)
			m = program(list(is(4), ret, body(n))...)
			reads(t, what+", turned round", m, only(0, 2, 1), list(turned, body(n), ret)...)
			m = program(list(nops(n), long(is(-n)), halt)...)
			back := long(is(-n))
			if n <= 128 {
				back = is(-n)
			}
			reads(t, what+", back", m, only(0, 1), list(nops(n), back, halt)...)
		}
	}
}

// P7.3: a new Jump may be Long, of a branch and its Jump either one alone.
func TestLongNewJumps(t *testing.T) {
	b := func(n int) api.Instr { return branch(api.Bge, 1, 2, n) }
	m := withTables(program(list(nop, halt, body(200))...), []int{1}) // blocks 0: 0; 1: 1; 2: 2
	reads(t, "Falls", m, only(0, 2, 1), list(nop, long(jump(203)), body(200), halt)...)
	m = program(list(b(4), halt, ret, body(200))...) // blocks 0: 0; 1: 3; 2: 4; 3: 5
	reads(t, "both of a Chance", m, only(0, 3, 2, 1), list(long(b(207)), long(jump(204)), body(200), ret, halt)...)
	reads(t, "the branch without a Jump", m, only(0, 1, 3, 2), list(long(b(205)), halt, body(200), ret)...)
	m = program(list(b(4), halt, ret, trap, body(200))...) // blocks 0: 0; 1: 3; 2: 4; 3: 5; 4: 6
	reads(t, "of both only the branch", m, only(0, 3, 1, 4, 2), list(long(b(208)), jump(3), trap, halt, body(200), ret)...)
	reads(t, "of both only the Jump", m, only(0, 3, 2, 4, 1), list(b(7), long(jump(205)), trap, ret, body(200), halt)...)
}

// P7.3: a Call is never Long, and leads as far as it must.
func TestFarCalls(t *testing.T) {
	m := texts(code(halt), code(call(4), ret), code(list(call(-5), body(900))...)) // of a block each
	reads(t, "as they stood", m, asTheyStood(t, m), list(halt, call(4), ret, call(-5), body(900))...)
	reads(t, "far on", m, []api.Part{part(0, 0), part(2, 2), part(1, 1)}, list(halt, call(-1), body(900), call(-903), ret)...)
}

// P7.3: what is Long moves others farther apart, so that these are Long, too, and so on: Jumps that pass over the next one.
func TestLongByTheNext(t *testing.T) {
	for count := 1; count < 14; count++ {
		for _, far := range []int{1, 100, 124, 125, 126, 300 - 10*count} {
			source, want := list(), list()
			each, last := jump(127), jump(3+far)
			if far > 124 {
				each, last = long(jump(129)), long(jump(4+far))
			}
			for range count {
				source, want = list(source, long(jump(129)), nops(123)), list(want, each, nops(123))
			}
			source = list(source, long(jump(4+far)), halt, body(far), ret)
			want = list(want, last, halt, body(far), ret)
			m := program(source...)
			reads(t, fmt.Sprintf("%d Jumps, the last one over %d", count, far), m, asTheyStood(t, m), want...)
		}
	}
}

// P7.3: the same, of Jumps that lead back over the one ahead.
func TestLongByTheOneAhead(t *testing.T) {
	for count := 1; count < 20; count++ {
		for first := 60; first < 70; first++ {
			source, want := list(nops(first)), list(nops(first))
			for k := range count {
				n := 128 // over the nops, the Jump ahead and its nops
				if k == 0 {
					n = first + 63
				}
				source = list(source, nops(63), long(jump(-n-min(k, 1))))
				if first <= 65 {
					want = list(want, nops(63), jump(-n))
				} else {
					want = list(want, nops(63), long(jump(-n-min(k, 1))))
				}
			}
			m := program(source...)
			reads(t, fmt.Sprintf("%d Jumps back, the first one over %d", count, first+63), m, asTheyStood(t, m), want...)
		}
	}
}

// P7.3: as few as may be: what could stay Long, because something else, or it itself, is Long, is not.
func TestFewestLong(t *testing.T) {
	m := program(list(nops(3), long(jump(129)), nops(123), long(jump(-129)), halt)...)
	reads(t, "two that pass over each other", m, only(0, 1, 2), list(nops(3), jump(127), nops(123), jump(-128), halt)...)
	m = program(list(nops(4), long(jump(129)), nops(123), long(jump(-130)), halt)...)
	reads(t, "the one has to be", m, only(0, 1, 2), list(nops(4), long(jump(129)), nops(123), long(jump(-130)), halt)...)
	m = program(list(nops(3), long(jump(128)), nops(122), long(jump(-128)), halt)...)
	reads(t, "none has to be", m, only(0, 1, 2), list(nops(3), jump(126), nops(122), jump(-127), halt)...)
	b := func(n int) api.Instr { return branch(api.Blt, 1, 2, n) }
	m = program(list(long(b(128)), nops(124), halt)...)
	reads(t, "by itself alone", m, only(0, 1, 2), list(b(127), nops(124), halt)...)
	m = program(list(nop, long(b(0)), long(b(-4)), long(b(-8)), long(jump(3)), halt)...)
	reads(t, "all were", m, asTheyStood(t, m), nop, b(0), b(-3), b(-6), halt)
}
