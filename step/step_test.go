package step_test

import (
	"fmt"
	"math"
	"reflect"
	"slices"
	"testing"

	"bolthole/api"
	"bolthole/image"
	"bolthole/isa"
	"bolthole/step"
)

// Instructions, in few words.
func bare(kind int) api.Instr        { return api.Instr{Kind: kind} }
func li(d, n int) api.Instr          { return api.Instr{Kind: api.Li, D: d, N: n} }
func addi(d, a, n int) api.Instr     { return api.Instr{Kind: api.Addi, D: d, A: a, N: n} }
func op(kind, d, a, b int) api.Instr { return api.Instr{Kind: kind, D: d, A: a, B: b} }
func load(d, a, n int) api.Instr     { return api.Instr{Kind: api.Load, D: d, A: a, N: n} }
func store(b, a, n int) api.Instr    { return api.Instr{Kind: api.Store, B: b, A: a, N: n} }
func input(d int) api.Instr          { return api.Instr{Kind: api.In, D: d} }
func out(a int) api.Instr            { return api.Instr{Kind: api.Out, A: a} }
func jump(n int) api.Instr           { return api.Instr{Kind: api.Jump, N: n} }
func call(n int) api.Instr           { return api.Instr{Kind: api.Call, N: n} }
func table(a, n int) api.Instr       { return api.Instr{Kind: api.Table, A: a, N: n} }

func branch(kind, a, b, n int) api.Instr { return api.Instr{Kind: kind, A: a, B: b, N: n} }

func long(i api.Instr) api.Instr {
	i.Long = true
	return i
}

var (
	halt = bare(api.Halt)
	trap = bare(api.Trap)
	ret  = bare(api.Ret)
	nop  = bare(api.Nop)
)

// code: the bytes of instructions.
func code(l ...api.Instr) []byte {
	var text []byte
	for _, i := range l {
		b, e := isa.Encode(i)
		if e != api.OK {
			panic(fmt.Sprintf("%+v may not be: %v", i, e))
		}
		text = append(text, b...)
	}
	return text
}

// text as a program of one function.
func text(b []byte) api.Image {
	return api.Image{Text: b, Funcs: []api.Func{{Name: "f", Size: len(b)}}}
}

// program of one function.
func program(l ...api.Instr) api.Image { return text(code(l...)) }

func withData(m api.Image, data ...int) api.Image {
	m.Data = data
	return m
}

func withTables(m api.Image, tables ...[]int) api.Image {
	m.Tables = tables
	return m
}

// same: whether two runs are, a list without elements being nil or not.
func same(a, b api.Run) bool {
	return slices.Equal(a.Told, b.Told) && a.End == b.End && a.Steps == b.Steps && a.At == b.At
}

// runs: the program, with these inputs and so much fuel, runs so.
func runs(t *testing.T, what string, m api.Image, in []int, fuel int, want api.Run) {
	t.Helper()
	if got, e := step.Run(m, in, fuel); e != api.OK || !same(got, want) {
		t.Errorf("%s: Run = %+v, %v, want %+v", what, got, e, want)
	}
}

// ends: the program, without inputs, ends so.
func ends(t *testing.T, what string, m api.Image, end, steps, at int, told ...int) {
	t.Helper()
	runs(t, what, m, nil, 1000, api.Run{Told: told, End: end, Steps: steps, At: at})
}

// refused: Run tells that error, and nothing else.
func refused(t *testing.T, what string, m api.Image, in []int, fuel int, want api.Errno) {
	t.Helper()
	if got, e := step.Run(m, in, fuel); e != want || !same(got, api.Run{}) {
		t.Errorf("%s: Run = %+v, %v, want nothing, %v", what, got, e, want)
	}
}

// P3.1: all registers have 0 at first, and these are numbers.
func TestRegistersAtFirst(t *testing.T) {
	var l []api.Instr
	for a := range api.Regs {
		l = append(l, out(a))
	}
	ends(t, "registers", program(append(l, halt)...), api.Halted, 8, 16, make([]int, 8)...)
}

// P3.1: the memory has the Data at first, one by one, and these are numbers; there are as many words as Data.
func TestMemoryAtFirst(t *testing.T) {
	data := make([]int, api.MaxData)
	var l []api.Instr
	for k := range data {
		data[k] = []int{api.MaxInt - k, -api.MaxInt + k, k}[k%3]
		l = append(l, load(1, 0, k), out(1))
	}
	all := program(append(l, halt)...)
	ends(t, "memory", withData(all, data...), api.Halted, 128, 5*64, data...)
	ends(t, "less memory", withData(all, data[:40]...), api.Trapped, 80, 5*40, data[:40]...)
	ends(t, "no memory", all, api.Trapped, 0, 0)
}

// P3.1: it is at the first byte of the function Entry.
func TestEntry(t *testing.T) {
	m := program(out(0), halt, li(1, 5), out(1), halt, trap)
	m.Funcs = []api.Func{{Name: "a", Size: 3}, {Name: "b", Start: 3, Size: 7}, {Name: "c", Start: 10, Size: 1}}
	for entry, want := range []api.Run{
		{Told: []int{0}, End: api.Halted, Steps: 1, At: 2},
		{Told: []int{5}, End: api.Halted, Steps: 2, At: 9},
		{End: api.Trapped, At: 10},
	} {
		m.Entry = entry
		runs(t, "entry", m, nil, 9, want)
	}
}

// P3.3: Li at its bounds, Addi and Nop.
func TestStepNumbers(t *testing.T) {
	ends(t, "Li", program(li(3, -32768), out(3), li(3, 32767), out(3), halt), api.Halted, 4, 12, -32768, 32767)
	ends(t, "Li, of the last register", program(li(7, 9), out(7), halt), api.Halted, 2, 6, 9)
	ends(t, "Addi", program(addi(1, 0, 127), addi(2, 1, -128), addi(2, 2, -3), out(1), out(2), halt), api.Halted, 5, 13, 127, -4)
	ends(t, "Nop", program(nop, nop, halt), api.Halted, 2, 2)
}

// P3.3: a register that is D, A and B at once.
func TestStepOneRegister(t *testing.T) {
	ends(t, "one register", program(li(4, 7), op(api.Mul, 4, 4, 4), op(api.Sub, 5, 4, 0), op(api.Sub, 4, 4, 4), out(4), out(5), halt),
		api.Halted, 6, 17, 0, 49)
}

// P3.3: Load and Store, with N above and below 0.
func TestStepMemory(t *testing.T) {
	ends(t, "memory", withData(program(
		li(1, 2), li(2, 77),
		store(2, 1, -2), store(1, 1, 1), // words 0 and 3
		load(3, 0, 0), load(4, 1, 1), load(5, 1, -1), load(6, 1, 0),
		out(3), out(4), out(5), out(6), halt,
	), 10, 11, 12, 13), api.Halted, 12, 34, 77, 2, 11, 12)
}

// P3.3: A and N name the word together, though A alone names none.
func TestStepMemoryFromOutside(t *testing.T) {
	ends(t, "from below", withData(program(li(1, -100), load(2, 1, 101), out(2), halt), 5, 6), api.Halted, 3, 9, 6)
	ends(t, "from above", withData(program(li(1, 129), load(2, 1, -128), out(2), halt), 5, 6), api.Halted, 3, 9, 6)
}

// P3.3: inputs one by one, and 0 when there are no more.
func TestStepInputs(t *testing.T) {
	m := program(input(1), out(1), input(2), out(2), input(1), out(1), li(2, 9), input(2), out(2), halt)
	for _, in := range [][]int{{}, {5}, {5, -6}, {5, -6, 7}, {5, -6, 7, 8}, {5, -6, 7, 8, 9}} {
		want := make([]int, 4)
		copy(want, in)
		runs(t, "inputs", m, in, 20, api.Run{Told: want, End: api.Halted, Steps: 9, At: 20})
	}
}

// P3.3: each branch, Long or not, taken or not, with A below, at and above B.
func TestStepBranches(t *testing.T) {
	for _, c := range []struct {
		kind  int
		taken [3]bool // A is below B, is B, is above B
	}{
		{api.Beq, [3]bool{false, true, false}},
		{api.Bne, [3]bool{true, false, true}},
		{api.Blt, [3]bool{true, false, false}},
		{api.Bge, [3]bool{false, true, true}},
	} {
		for k, pair := range [][]int{{-api.MaxInt, api.MaxInt}, {-3, -3}, {1, 0}} {
			for _, i := range []api.Instr{branch(c.kind, 1, 2, 6), long(branch(c.kind, 1, 2, 6))} {
				size, _ := isa.Size(i)
				m := program(input(1), input(2), i, nop, nop, nop, nop)
				at := 4 + size
				if c.taken[k] {
					at = 4 + 6
				}
				runs(t, fmt.Sprint(i, pair), m, pair, 3, api.Run{End: api.Spent, Steps: 3, At: at})
			}
		}
	}
}

// P3.3: branches and Jumps go on from their own beginning, backwards too, as far as N says.
func TestStepWhereTo(t *testing.T) {
	wide := make([]byte, api.MaxText)
	for _, c := range []struct {
		what string
		i    api.Instr
	}{
		{"Beq ahead", branch(api.Beq, 0, 0, 127)},
		{"Bge back", branch(api.Bge, 0, 0, -128)},
		{"Beq, itself", branch(api.Beq, 0, 0, 0)},
		{"Jump ahead", jump(127)},
		{"Jump back", jump(-128)},
		{"Jump, itself", jump(0)},
		{"Jump within itself", jump(1)},
		{"Long Beq ahead", long(branch(api.Beq, 0, 0, 3000))},
		{"Long Bge back", long(branch(api.Bge, 0, 0, -3000))},
		{"Long Jump ahead", long(jump(3000))},
		{"Long Jump back", long(jump(-3000))},
		{"Call ahead", call(3000)},
		{"Call back", call(-3000)},
		{"Call, itself", call(0)},
	} {
		at := 4000
		m := text(append(append(wide[:at:at], code(c.i)...), wide[at+4:]...))
		m.Funcs = []api.Func{{Name: "ahead", Size: at}, {Name: "f", Start: at, Size: len(m.Text) - at}}
		m.Entry = 1
		runs(t, c.what, m, nil, 1, api.Run{End: api.Spent, Steps: 1, At: at + c.i.N})
	}
}

// P3.3: a Call, whose address of return is that of the next instruction, and a Ret.
func TestStepCall(t *testing.T) {
	m := program(nop, call(7), out(1), halt, trap, li(1, 5), ret)
	ends(t, "Call ahead", m, api.Halted, 5, 6, 5)
	m = program(jump(9), li(1, 6), out(1), ret, call(-7), call(-10), halt)
	ends(t, "Call back, twice", m, api.Halted, 9, 15, 6, 6)
}

// P3.3: the address of return goes to memory and comes back, to another register too, and stays an address.
func TestStepAddressInMemory(t *testing.T) {
	inner := []api.Instr{store(7, 0, 1), li(7, 3), out(7), load(7, 0, 1), ret}
	m := program(append([]api.Instr{call(4), halt}, inner...)...)
	ends(t, "by memory", withData(m, 0, 0), api.Halted, 6, 3, 3)
	m = program(call(4), halt, store(7, 0, 0), load(3, 0, 0), li(7, 0), store(3, 0, 1), load(7, 0, 1), ret)
	ends(t, "by another register", withData(m, 0, 0), api.Halted, 7, 3)
	m = program(call(4), halt, store(7, 0, 0), load(3, 0, 0), out(3))
	ends(t, "another register", withData(m, 0), api.Guarded, 3, 10)
}

// P3.3: what was an address may be overwritten, and is a number then.
func TestStepNoAddressAnyMore(t *testing.T) {
	for _, i := range []api.Instr{li(7, 4), addi(7, 0, 4), op(api.Add, 7, 1, 1), input(7), load(7, 0, 0)} {
		size, _ := isa.Size(i)
		m := withData(program(call(3), li(1, 2), i, out(7), ret), 4)
		runs(t, fmt.Sprint(i), m, []int{4}, 99, api.Run{Told: []int{4}, End: api.Guarded, Steps: 4, At: 9 + size})
	}
	m := withData(program(call(3), store(7, 0, 0), store(1, 0, 0), load(2, 0, 0), out(2), halt), 8)
	ends(t, "a word of memory", m, api.Halted, 5, 14, 0)
}

// P3.3: a Table goes on at the A'th of its addresses.
func TestStepTable(t *testing.T) {
	for k, at := range []int{9, 0, 5, 9} {
		m := withTables(program(li(6, k), table(6, 1), nop, nop, nop), []int{1, 2, 3, 4}, []int{9, 0, 5, 9}, []int{})
		runs(t, fmt.Sprint("entry ", k), m, nil, 2, api.Run{End: api.Spent, Steps: 2, At: at})
	}
	tables := make([][]int, api.MaxTables)
	tables[api.MaxTables-1] = slices.Repeat([]int{0}, api.MaxTable)
	tables[api.MaxTables-1][api.MaxTable-1] = 7
	m := withTables(program(li(1, api.MaxTable-1), table(1, api.MaxTables-1), halt), tables...)
	ends(t, "the last entry of the last table", m, api.Halted, 2, 7)
}

// P3.3: code is not bound to functions, and may be gone into within an instruction.
func TestStepAnywhere(t *testing.T) {
	m := program(jump(3), li(0, 0x41), trap)
	// The bytes of the Li from its second one on: Halt, then Out of register 0.
	ends(t, "within an instruction", m, api.Halted, 1, 3)
	m = program(nop, out(0), halt)
	m.Funcs = []api.Func{{Name: "a", Size: 2}, {Name: "b", Start: 2, Size: 2}}
	ends(t, "over the end of a function", m, api.Halted, 2, 3, 0)
}

// P3.3, P3.5: the document's loop, which counts from 2 down to 1 and tells each number.
func TestLoop(t *testing.T) {
	m := program(
		li(1, 2),
		branch(api.Beq, 1, 0, 5), // 4: to the end
		jump(3),                  // 7
		halt,                     // 9
		out(1), addi(1, 1, -1),   // 10
		jump(-11), // 15
	)
	ends(t, "loop", m, api.Halted, 1+2*5+1, 9, 2, 1)
	for fuel, want := range []api.Run{
		{End: api.Spent, At: 0},
		{End: api.Spent, Steps: 1, At: 4},
		{End: api.Spent, Steps: 2, At: 7},
		{End: api.Spent, Steps: 3, At: 10},
		{Told: []int{2}, End: api.Spent, Steps: 4, At: 12},
		{Told: []int{2}, End: api.Spent, Steps: 5, At: 15},
		{Told: []int{2}, End: api.Spent, Steps: 6, At: 4},
	} {
		runs(t, "loop, for a while", m, nil, fuel, want)
	}
}

// P3.5: what image's Check refuses is refused so, ahead of all else.
func TestRefusedImage(t *testing.T) {
	for _, m := range []api.Image{
		{},
		{Text: []byte{0}},
		{Text: make([]byte, api.MaxText+1), Funcs: []api.Func{{Name: "f", Size: api.MaxText + 1}}},
		{Text: []byte{0}, Funcs: []api.Func{{Name: "F", Size: 1}}},
		{Text: []byte{0, 0}, Funcs: []api.Func{{Name: "f", Size: 1}, {Name: "f", Start: 1, Size: 1}}},
		{Text: []byte{0}, Funcs: []api.Func{{Name: "f", Size: 1}}, Entry: 1},
		{Text: []byte{0}, Funcs: []api.Func{{Name: "f", Size: 1}}, Entry: math.MinInt},
		withTables(program(halt), []int{1}),
		withTables(program(halt), make([]int, api.MaxTable+1)),
		withData(program(halt), api.MaxInt+1),
		withData(program(halt), make([]int, api.MaxData+1)...),
		{Text: []byte{0}, Funcs: []api.Func{{Name: "f", Size: 1}}, Lines: []api.Line{{At: 1}}},
	} {
		want := image.Check(m)
		if want == api.OK {
			t.Fatalf("%v may be", m)
		}
		refused(t, "image", m, nil, 9, want)
		refused(t, "image, and fuel", m, nil, -1, want)
		refused(t, "image, and inputs", m, make([]int, api.MaxInputs+1), 9, want)
	}
}

// P3.5: fuel and inputs that may not be, in their order.
func TestRefused(t *testing.T) {
	m := program(halt)
	many := make([]int, api.MaxInputs+1)
	far := append(make([]int, api.MaxInputs), api.MaxInt+1)
	for _, fuel := range []int{-1, api.MaxFuel + 1, math.MinInt, math.MaxInt} {
		refused(t, "fuel", m, nil, fuel, api.ErrRange)
		refused(t, "fuel, and inputs", m, many, fuel, api.ErrRange)
	}
	refused(t, "too many", m, many, 9, api.ErrSize)
	refused(t, "too many, and too far", m, far, 9, api.ErrSize)
	refused(t, "too many, without fuel", m, many, 0, api.ErrSize)
	for _, n := range []int{api.MaxInt + 1, -api.MaxInt - 1, math.MinInt, math.MaxInt} {
		refused(t, "the only one", m, []int{n}, 9, api.ErrRange)
		refused(t, "the last one", m, append(make([]int, api.MaxInputs-1), n), 9, api.ErrRange)
		refused(t, "the first one, without fuel", m, []int{n, 1}, 0, api.ErrRange)
	}
}

// P3.5: as many inputs as may be, as far as they may be, and as much fuel.
func TestGreatest(t *testing.T) {
	in := make([]int, api.MaxInputs)
	for k := range in {
		in[k] = []int{api.MaxInt, -api.MaxInt}[k%2]
	}
	want := make([]int, api.MaxFuel/4)
	copy(want, in)
	m := program(input(1), out(1), nop, jump(-5))
	runs(t, "greatest", m, in, api.MaxFuel, api.Run{Told: want, End: api.Spent, Steps: api.MaxFuel})
	runs(t, "greatest, but for one", m, in, api.MaxFuel-1, api.Run{Told: want, End: api.Spent, Steps: api.MaxFuel - 1, At: 5})
}

// P3.5: what is handed in is not changed, its spare room neither, and an answer shares memory with nothing.
func TestMemoryOfItsOwn(t *testing.T) {
	given := func() (api.Image, []int) {
		m := program(input(1), out(1), store(1, 0, 0), load(2, 0, 0), out(2), table(0, 0), halt)
		m.Data = []int{6, 7, 8, 9}[:2]
		m.Tables = [][]int{[]int{15, 3, 3}[:1]}
		return m, []int{4, 5, 6}[:2]
	}
	m, in := given()
	first, e := step.Run(m, in, 50)
	want := api.Run{Told: []int{4, 4}, End: api.Halted, Steps: 6, At: 15}
	if e != api.OK || !same(first, want) {
		t.Fatalf("Run = %+v, %v, want %+v", first, e, want)
	}
	other, otherIn := given()
	if !reflect.DeepEqual(m, other) || !slices.Equal(in[:3], otherIn[:3]) ||
		!slices.Equal(m.Data[:4], other.Data[:4]) || !slices.Equal(m.Tables[0][:3], other.Tables[0][:3]) {
		t.Errorf("Run changed what it was given: %v, %v", m, in)
	}
	spare := first.Told[:cap(first.Told)]
	for k := range spare {
		spare[k] = 99
	}
	runs(t, "once more", m, in, 50, want)
}
