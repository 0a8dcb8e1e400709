package flow_test

import (
	"fmt"
	"slices"
	"testing"

	"bolthole/api"
	"bolthole/isa"
)

// starts of the blocks of a flow, in their order.
func starts(f api.Flow) []int {
	var l []int
	for _, b := range f.Blocks {
		l = append(l, b.Start)
	}
	return l
}

// begin: the blocks of a program begin there.
func begin(t *testing.T, what string, m api.Image, want ...int) {
	t.Helper()
	if got := starts(recovered(t, what, m)); !slices.Equal(got, want) {
		t.Errorf("%s: blocks begin at %v, want %v", what, got, want)
	}
}

// P4.2: where blocks begin, one reason at a time.
func TestBeginnings(t *testing.T) {
	begin(t, "a function", program(nop, out(1), li(1, 2), nop, ret), 0)
	begin(t, "functions", texts(code(nop, ret), code(out(1), nop, halt), code(trap)), 0, 2, 6)
	straight := program(nop, nop, nop, nop, halt)
	begin(t, "a Table that none names", withTables(straight, []int{}, []int{3, 1, 3}), 0, 1, 3)
	begin(t, "a Table at a function's beginning", withTables(straight, []int{0}), 0)
	begin(t, "a Table over functions", withTables(texts(code(nop, ret), code(nop, halt)), []int{3, 1}), 0, 1, 2, 3)
	for _, i := range []api.Instr{halt, trap, ret, table(1, 3)} {
		size, _ := isa.Size(i)
		begin(t, fmt.Sprint("behind ", i), program(nop, i, nop, nop, halt), 0, 1+size)
	}
	for kind := api.Beq; kind <= api.Jump; kind++ {
		for _, i := range []api.Instr{bare(kind), long(bare(kind))} {
			size, _ := isa.Size(i)
			what := fmt.Sprintf("%+v", i)
			i.N = size + 2
			begin(t, what+" ahead", program(nop, i, nop, nop, nop, halt), 0, 1+size, 1+size+2)
			i.N = size
			begin(t, what+" to the next one", program(nop, i, nop, nop, halt), 0, 1+size)
			i.N = 0
			begin(t, what+" to itself", program(nop, i, nop, halt), 0, 1, 1+size)
			i.N = -2
			begin(t, what+" back", program(nop, nop, nop, i, nop, halt), 0, 1, 3+size)
		}
	}
}

// P4.2: behind a Call, and where it leads, no block begins for that.
func TestCallsBeginNothing(t *testing.T) {
	begin(t, "Calls", texts(code(nop, call(9), call(6), out(1), halt), code(call(-10), nop, ret)), 0, 10)
}

// P4.2: behind the last instruction of the text no block begins.
func TestNoneBehindTheText(t *testing.T) {
	for _, i := range []api.Instr{halt, trap, ret, table(0, 0), jump(0), long(jump(0))} {
		begin(t, fmt.Sprintf("%+v", i), program(i), 0)
	}
}

// P4.2: places over all functions; Firsts and Tables are such.
func TestPlaces(t *testing.T) {
	m := texts(
		code(nop, halt, nop, halt), // 0: blocks at 0, 2
		code(ret),                  // 4
		code(nop, jump(-1), out(1), ret, // 5: blocks at 5, 8
			table(1, 0)), // and at 11
	)
	m.Tables = [][]int{{11, 5, 11, 8}, {}, {2, 4, 0, 10, 11}}
	f := recovered(t, "places", m)
	if want := []int{0, 2, 4, 5, 8, 10, 11}; !slices.Equal(starts(f), want) {
		t.Errorf("blocks begin at %v, want %v", starts(f), want)
	}
	if want := []int{0, 2, 3}; !slices.Equal(f.Firsts, want) {
		t.Errorf("Firsts are %v, want %v", f.Firsts, want)
	}
	if want := "[[6 3 6 4] [] [1 2 0 5 6]]"; fmt.Sprint(f.Tables) != want {
		t.Errorf("Tables are %v, want %s", f.Tables, want)
	}
}

// P4.2: as many functions and Tables as may be.
func TestMostPlaces(t *testing.T) {
	var parts [][]byte
	for range api.MaxFuncs {
		parts = append(parts, code(halt, nop, halt))
	}
	m := texts(parts...)
	for k := range api.MaxTables {
		var l []int
		for j := range api.MaxTable {
			l = append(l, 3*(k+j)+j%2)
		}
		m.Tables = append(m.Tables, l)
	}
	f := recovered(t, "most", m)
	for k, n := range f.Firsts {
		if n != 2*k {
			t.Errorf("the first block of function %d is %d, want %d", k, n, 2*k)
		}
	}
	for k, l := range f.Tables {
		for j, n := range l {
			if n != 2*(k+j)+j%2 {
				t.Errorf("table %d has %d at %d, want %d", k, n, j, 2*(k+j)+j%2)
			}
		}
	}
	if len(f.Blocks) != 2*api.MaxFuncs || len(f.Firsts) != api.MaxFuncs || len(f.Tables) != api.MaxTables {
		t.Errorf("%d blocks, %d Firsts, %d Tables", len(f.Blocks), len(f.Firsts), len(f.Tables))
	}
}

// P4.3, P4.4: the document's loop, whole.
func TestLoop(t *testing.T) {
	m := program(
		li(1, 2),
		branch(api.Beq, 1, 0, 5), // 4: to the end
		jump(3),                  // 7
		halt,                     // 9
		out(1), addi(1, 1, -1),   // 10
		jump(-11), // 15
	)
	m.Lines = []api.Line{{At: 0, N: 1}, {At: 4, N: 2}, {At: 9, N: 5}, {At: 12, N: 3}, {At: 15, N: 4}}
	recovers(t, "loop", m, api.Flow{
		Blocks: []api.Block{
			{Start: 0, Code: []api.Instr{li(1, 2)}, At: []int{0}, Ends: api.Falls, To: 1, Lines: []int{1, 1}},
			{Start: 4, At: []int{4}, Last: branch(api.Beq, 1, 0, 0), Ends: api.Chance, To: 3, Else: 2, Lines: []int{2}},
			{Start: 7, At: []int{7}, Ends: api.Jumps, To: 4, Lines: []int{2}},
			{Start: 9, Code: []api.Instr{halt}, At: []int{9}, Ends: api.Stops, Lines: []int{5, 5}},
			{Start: 10, Code: []api.Instr{out(1), addi(1, 1, -1)}, At: []int{10, 12, 15}, Ends: api.Jumps, To: 1, Lines: []int{5, 3, 4}},
		},
		Firsts: []int{0},
	})
}

// P4.3, P4.4: functions that call one another, a Table, and each way to end.
func TestFunctions(t *testing.T) {
	m := texts(
		code(call(15), call(-3), table(2, 1), nop, long(branch(api.Blt, 3, 4, -4)), ret), // 0, 3, 6, 9, 10, 14
		code(trap, nop, halt, call(-3), nop, long(jump(-5))),                             // 15, 16, 17, 18, 21, 22
	)
	m.Tables = [][]int{{21}, {10, 0}}
	m.Lines = []api.Line{{At: 1, N: 30}, {At: 6, N: 20}, {At: 11, N: 0}, {At: 16, N: 7}, {At: 22, N: 9}}
	recovers(t, "functions", m, api.Flow{
		Blocks: []api.Block{
			{Start: 0, Code: []api.Instr{call(1), call(0)}, At: []int{0, 3}, Ends: api.Falls, To: 1, Lines: []int{0, 30, 30}},
			{Start: 6, Code: []api.Instr{table(2, 1)}, At: []int{6}, Ends: api.Stops, Lines: []int{20, 20}},
			{Start: 9, Code: []api.Instr{nop}, At: []int{9}, Ends: api.Falls, To: 3, Lines: []int{20, 20}},
			{Start: 10, At: []int{10}, Last: branch(api.Blt, 3, 4, 0), Ends: api.Chance, To: 1, Else: 4, Lines: []int{20}},
			{Start: 14, Code: []api.Instr{ret}, At: []int{14}, Ends: api.Stops, Lines: []int{0, 0}},
			{Func: 1, Start: 15, Code: []api.Instr{trap}, At: []int{15}, Ends: api.Stops, Lines: []int{0, 0}},
			{Func: 1, Start: 16, Code: []api.Instr{nop}, At: []int{16}, Ends: api.Falls, To: 7, Lines: []int{7, 7}},
			{Func: 1, Start: 17, Code: []api.Instr{halt}, At: []int{17}, Ends: api.Stops, Lines: []int{7, 7}},
			{Func: 1, Start: 18, Code: []api.Instr{call(1)}, At: []int{18}, Ends: api.Falls, To: 9, Lines: []int{7, 7}},
			{Func: 1, Start: 21, Code: []api.Instr{nop}, At: []int{21, 22}, Ends: api.Jumps, To: 7, Lines: []int{7, 9}},
		},
		Tables: [][]int{{9}, {3, 0}},
		Firsts: []int{0, 5},
	})
}

// P4.3: the branch of a Chance, of each Kind, Long or not: its Kind, A and B, and nothing else.
func TestLast(t *testing.T) {
	for kind := api.Beq; kind <= api.Bge; kind++ {
		for _, i := range []api.Instr{branch(kind, 5, 7, -1), long(branch(kind, 5, 7, -1))} {
			f := recovered(t, fmt.Sprintf("%+v", i), program(nop, i, halt))
			b := f.Blocks[0]
			if b.Last != branch(kind, 5, 7, 0) || b.Ends != api.Chance || b.To != 0 || b.Else != 1 || len(b.Code) != 1 {
				t.Errorf("%+v: the block is %+v", i, b)
			}
		}
	}
	f := recovered(t, "both ways to the next one", program(branch(api.Beq, 0, 0, 3), halt))
	if b := f.Blocks[0]; b.To != 1 || b.Else != 1 {
		t.Errorf("both ways to the next one: the block is %+v", b)
	}
}

// P4.3: instructions stand in Code as they are, each operand of them; only a Call's N is another one.
func TestCodeAsItIs(t *testing.T) {
	var l []api.Instr
	for kind := api.Nop; kind <= api.Out; kind++ {
		for _, i := range []api.Instr{
			{Kind: kind},
			{Kind: kind, D: 1}, {Kind: kind, D: 1, N: -3}, {Kind: kind, D: 1, A: 2, N: 127}, {Kind: kind, D: 1, A: 2, B: 3},
			{Kind: kind, A: 4}, {Kind: kind, A: 5, B: 6, N: -128},
		} {
			if isa.Check(i) == api.OK {
				l = append(l, i)
			}
		}
	}
	m := program(append(append([]api.Instr{nop}, l...), table(6, 19))...)
	f := recovered(t, "as they are", m)
	want := append(append([]api.Instr{nop}, l...), table(6, 19))
	if len(f.Blocks) != 1 || !slices.Equal(f.Blocks[0].Code, want) {
		t.Errorf("Code is %+v, want %+v", f.Blocks[0].Code, want)
	}
}

// P4.3: N of a Call is a function's place: the first function and the last one call all, forwards and backwards.
func TestCalls(t *testing.T) {
	const size = 3*api.MaxFuncs + 1
	var parts [][]byte
	for k := range api.MaxFuncs {
		var l []api.Instr
		if k == 0 || k == api.MaxFuncs-1 {
			for to := range api.MaxFuncs {
				l = append(l, call(callee(to, size)-callee(k, size)-3*to))
			}
		}
		parts = append(parts, code(append(l, ret)...))
	}
	f := recovered(t, "calls", texts(parts...))
	for _, b := range []api.Block{f.Blocks[0], f.Blocks[api.MaxFuncs-1]} {
		for to := range api.MaxFuncs {
			if b.Code[to] != call(to) {
				t.Errorf("function %d has %+v, want a Call of %d", b.Func, b.Code[to], to)
			}
		}
	}
}

// callee: where a function begins, if the first one and the last one are of that size, and all others of one byte.
func callee(place, size int) int {
	if place == 0 {
		return 0
	}
	return size + place - 1
}

// P4.4: the lines of all instructions, and what stands for the end of the block.
func TestLines(t *testing.T) {
	lines := []api.Line{{At: 1, N: 3}, {At: 3, N: 0}, {At: 4, N: api.MaxLine}, {At: 5, N: 8}}
	for _, c := range []struct {
		what string
		m    api.Image
		want string
	}{
		{"a Halt", program(nop, nop, nop, nop, halt, trap), "[[0 3 3 0 10000 10000] [8 8]]"},
		{"a Jump", program(nop, nop, nop, nop, jump(-4)), "[[0 3 3 0 10000]]"},
		{"a Jump alone", program(nop, nop, halt, nop, jump(0)), "[[0 3 3 3] [0 0] [10000]]"},
		{"a branch", program(nop, nop, nop, branch(api.Bne, 1, 2, -3), halt), "[[0 3 3 0] [8 8]]"},
		{"a fall", withTables(program(nop, nop, nop, nop, halt, halt), []int{4, 1}), "[[0 0] [3 3 0 0] [10000 10000] [8 8]]"},
		{"a Table, and a Ret", program(nop, table(0, 0), nop, ret), "[[0 3 3] [10000 8 8]]"},
	} {
		f := recovered(t, c.what, withLines(c.m, lines...))
		var got [][]int
		for _, b := range f.Blocks {
			got = append(got, b.Lines)
		}
		if fmt.Sprint(got) != c.want {
			t.Errorf("%s: Lines are %v, want %s", c.what, got, c.want)
		}
	}
	if f := recovered(t, "no lines", program(nop, jump(-1))); fmt.Sprint(f.Blocks[0].Lines) != "[0 0]" {
		t.Errorf("no lines: Lines are %v", f.Blocks[0].Lines)
	}
}
