package flow_test

import (
	"fmt"
	"reflect"
	"testing"

	"bolthole/api"
	"bolthole/flow"
	"bolthole/image"
	"bolthole/isa"
)

func bare(kind int) api.Instr { return api.Instr{Kind: kind} }

func li(d, n int) api.Instr { return api.Instr{Kind: api.Li, D: d, N: n} }

func addi(d, a, n int) api.Instr { return api.Instr{Kind: api.Addi, D: d, A: a, N: n} }

func out(a int) api.Instr { return api.Instr{Kind: api.Out, A: a} }

func branch(kind, a, b, n int) api.Instr { return api.Instr{Kind: kind, A: a, B: b, N: n} }

func jump(n int) api.Instr { return api.Instr{Kind: api.Jump, N: n} }

func call(n int) api.Instr { return api.Instr{Kind: api.Call, N: n} }

func table(a, n int) api.Instr { return api.Instr{Kind: api.Table, A: a, N: n} }

func long(i api.Instr) api.Instr {
	i.Long = true
	return i
}

var (
	halt = bare(api.Halt)
	trap = bare(api.Trap)
	ret  = bare(api.Ret)
	nop  = bare(api.Nop)
)

// code: the bytes of instructions.
func code(l ...api.Instr) []byte {
	var text []byte
	for _, i := range l {
		b, e := isa.Encode(i)
		if e != api.OK {
			panic(fmt.Sprintf("%+v may not be: %v", i, e))
		}
		text = append(text, b...)
	}
	return text
}

// texts as a program, a function each.
func texts(parts ...[]byte) api.Image {
	var m api.Image
	for k, b := range parts {
		name := string(rune('a'+k/26)) + string(rune('a'+k%26))
		m.Funcs = append(m.Funcs, api.Func{Name: name, Start: len(m.Text), Size: len(b)})
		m.Text = append(m.Text, b...)
	}
	return m
}

// program of one function.
func program(l ...api.Instr) api.Image { return texts(code(l...)) }

func withTables(m api.Image, tables ...[]int) api.Image {
	m.Tables = tables
	return m
}

func withLines(m api.Image, lines ...api.Line) api.Image {
	m.Lines = lines
	return m
}

// plain: a list whose being nil or not, without elements, is told by nothing any more.
func plain[T any](l []T) []T { return append([]T{}, l...) }

func plainFlow(f api.Flow) api.Flow {
	c := api.Flow{Blocks: plain(f.Blocks), Tables: plain(f.Tables), Firsts: plain(f.Firsts)}
	for k, b := range c.Blocks {
		b.Code, b.At, b.Lines = plain(b.Code), plain(b.At), plain(b.Lines)
		c.Blocks[k] = b
	}
	for k, l := range c.Tables {
		c.Tables[k] = plain(l)
	}
	return c
}

func same(a, b api.Flow) bool { return reflect.DeepEqual(plainFlow(a), plainFlow(b)) }

// recovered: the flow of a program that can be followed.
func recovered(t *testing.T, what string, m api.Image) api.Flow {
	t.Helper()
	f, e := flow.Recover(m)
	if e != api.OK {
		t.Fatalf("%s: Recover = %v, want OK", what, e)
	}
	return f
}

// recovers: the program's flow is this one.
func recovers(t *testing.T, what string, m api.Image, want api.Flow) {
	t.Helper()
	if got := recovered(t, what, m); !same(got, want) {
		t.Errorf("%s: Recover =\n%+v, want\n%+v", what, got, want)
	}
}

// refused: Recover tells that error, and a flow of nothing.
func refused(t *testing.T, what string, m api.Image, want api.Errno) {
	t.Helper()
	if f, e := flow.Recover(m); e != want || !same(f, api.Flow{}) {
		t.Errorf("%s: Recover = %+v, %v, want nothing, %v", what, f, e, want)
	}
}

// P4.1: what image's Check refuses is refused so, ahead of all else.
func TestRefusedImage(t *testing.T) {
	large := program(nop)
	large.Text = make([]byte, api.MaxFirst+1)
	noEntry := program(nop)
	noEntry.Entry = 1
	data := program(nop)
	data.Data = []int{api.MaxInt + 1}
	for _, m := range []api.Image{
		{},
		{Text: []byte{0}},
		texts(make([]byte, api.MaxText+1)),
		large,
		noEntry,
		data,
		withTables(program(nop), []int{1}),
		withTables(program(halt), []int{-1}),
		withTables(program(halt), make([]int, api.MaxTable+1)),
		withLines(program(nop), api.Line{At: 1}),
		withLines(program(halt), api.Line{N: api.MaxLine + 1}),
		{Text: []byte{3}, Funcs: []api.Func{{Name: "F", Size: 1}}},
		{Text: []byte{3, 3}, Funcs: []api.Func{{Name: "f", Size: 1}, {Name: "f", Start: 1, Size: 1}}},
	} {
		want := image.Check(m)
		if want == api.OK {
			t.Fatalf("%v may be", m)
		}
		refused(t, fmt.Sprint(m.Funcs), m, want)
	}
}

// P4.1: more bytes than MaxFirst, whether they can be followed or not.
func TestRefusedSize(t *testing.T) {
	f := recovered(t, "as many as may be", texts(make([]byte, api.MaxFirst)))
	if len(f.Blocks) != api.MaxFirst {
		t.Errorf("%d blocks, want %d", len(f.Blocks), api.MaxFirst)
	}
	refused(t, "one more", texts(make([]byte, api.MaxFirst+1)), api.ErrSize)
	refused(t, "as many as an image may have", texts(make([]byte, api.MaxText)), api.ErrSize)
	nops := make([]byte, api.MaxFirst+1)
	for k := range nops {
		nops[k] = 3
	}
	refused(t, "one more, without an end", texts(nops), api.ErrSize)
	refused(t, "without an end", texts(nops[1:]), api.ErrCode)
}

// P4.1: bytes that are no instructions, and an instruction that reaches over its function's end.
func TestRefusedBytes(t *testing.T) {
	for _, b := range [][]byte{{0x04}, {0x70}, {0xff}, {0x10, 8, 0, 0}, {0x41, 8}, {0x20, 0, 8}, {0x63, 0, 20}, {0x63, 9, 0}} {
		for _, m := range []api.Image{
			texts(append(b, 0)), texts(append([]byte{3}, append(b, 0)...)), texts([]byte{0}, append(b, 0)), texts(append(b, 0), []byte{0}), texts(b),
		} {
			refused(t, fmt.Sprint(m.Text), m, api.ErrCode)
		}
	}
	refused(t, "the text ends", texts([]byte{0x60}), api.ErrCode)
	// The two functions together would be instructions.
	refused(t, "a function ends within a Jump", texts([]byte{3, 0x60}, []byte{0, 0}), api.ErrCode)
	refused(t, "a function ends within a Table", texts([]byte{0x63, 1}, []byte{0, 0}), api.ErrCode)
	refused(t, "a function ends within a Li", texts([]byte{0x10, 1, 0}, []byte{0}), api.ErrCode)
}

// P4.1: what may be the last instruction of a function, and what not.
func TestLastInstruction(t *testing.T) {
	for kind := api.Halt; kind <= api.Table; kind++ {
		for _, b := range [][]byte{code(bare(kind)), code(nop, nop, bare(kind))} {
			for _, m := range []api.Image{texts(b), texts([]byte{0}, b), texts(b, []byte{0})} {
				switch kind {
				case api.Halt, api.Trap, api.Ret, api.Jump, api.Table:
					recovered(t, fmt.Sprint("last: ", kind), m)
				default:
					refused(t, fmt.Sprint("last: ", kind), m, api.ErrCode)
				}
			}
		}
	}
	recovered(t, "a Long Jump", program(long(jump(0))))
	refused(t, "a Long branch", program(long(branch(api.Beq, 0, 0, 0))), api.ErrCode)
	refused(t, "a Call of its own function", program(call(0)), api.ErrCode)
	refused(t, "not the last function", texts([]byte{3}, []byte{0}), api.ErrCode)
	refused(t, "only the last function", texts([]byte{0}, []byte{3}), api.ErrCode)
}

// P4.1: each address of a Table is where an instruction begins, whether one names the Table or not.
func TestTableAddresses(t *testing.T) {
	m := texts(code(li(1, 5), halt), code(out(1), ret)) // 0, 4; 5, 7
	begins := map[int]int{0: 1, 4: 1, 5: 1, 7: 1}
	for at := range m.Text {
		for _, tables := range [][][]int{{{at}}, {{}, {0, 4, at}}, {{at, 5}, {7}}} {
			what := fmt.Sprint("tables ", tables)
			if begins[at] > 0 {
				recovered(t, what, withTables(m, tables...))
			} else {
				refused(t, what, withTables(m, tables...), api.ErrCode)
			}
		}
	}
}

// P4.1: a branch and a Jump go on where an instruction of their function begins.
func TestWhereTo(t *testing.T) {
	kinds := []api.Instr{bare(api.Beq), bare(api.Bne), bare(api.Blt), bare(api.Bge), bare(api.Jump)}
	for _, i := range kinds {
		for _, i := range []api.Instr{i, long(i)} {
			size, _ := isa.Size(i)
			own := []int{5, 9, 9 + size} // of the second function
			for to := -3; to < 5+4+size+1+2+3; to++ {
				i.N = to - 9
				m := texts(code(nop, nop, nop, nop, halt), code(li(1, 2), i, halt), code(nop, halt))
				what := fmt.Sprintf("%+v, to %d", i, to)
				if to == own[0] || to == own[1] || to == own[2] {
					recovered(t, what, m)
				} else {
					refused(t, what, m, api.ErrCode)
				}
			}
		}
	}
	for _, n := range []int{-32768, -2001, 2001, 32767} {
		refused(t, fmt.Sprint("far: ", n), program(long(jump(n))), api.ErrCode)
	}
}

// P4.1: a Call goes on where a function begins.
func TestWhereCallsLead(t *testing.T) {
	begins := map[int]int{0: 1, 3: 1, 9: 1}
	for to := -4; to < 16; to++ {
		m := texts(code(nop, nop, halt), code(out(1), call(to-5), ret), code(nop, halt)) // 0; 3; 9
		if begins[to] > 0 {
			recovered(t, fmt.Sprint("Call to ", to), m)
		} else {
			refused(t, fmt.Sprint("Call to ", to), m, api.ErrCode)
		}
	}
	for _, n := range []int{-32768, 32767} {
		refused(t, fmt.Sprint("far: ", n), program(call(n), halt), api.ErrCode)
	}
}

// P4.1: addresses of a Table that an instruction names are of that instruction's function; others may be anywhere.
func TestWhereTablesLead(t *testing.T) {
	named := texts(code(nop, halt), code(table(1, 1)), code(nop, halt)) // 0, 1; 2; 5, 6
	recovered(t, "its own", withTables(named, []int{0, 6}, []int{2, 2}))
	recovered(t, "empty", withTables(named, []int{0, 6}, []int{}))
	recovered(t, "not named", withTables(named, []int{0, 2, 5, 6}, []int{2}, []int{1, 2}))
	recovered(t, "no such Table", withTables(named, []int{0, 2, 6}))
	recovered(t, "no Table at all", named)
	for _, l := range [][]int{{0}, {1}, {5}, {6}, {2, 2, 6}, {1, 2}} {
		refused(t, fmt.Sprint("another function's: ", l), withTables(named, []int{}, l), api.ErrCode)
	}
	two := texts(code(table(1, 0)), code(table(1, 0)))
	refused(t, "named by two functions", withTables(two, []int{0}), api.ErrCode)
	refused(t, "named by two functions, the second one's", withTables(two, []int{3}), api.ErrCode)
	recovered(t, "named by two functions, empty", withTables(two, []int{}))
	within := program(table(1, 0), table(2, 0), nop, table(3, 0))
	recovered(t, "named thrice by one", withTables(within, []int{6, 0, 3, 7}))
	refused(t, "named where nothing leads", withTables(texts(code(halt, table(0, 0), halt), code(halt)), []int{5}), api.ErrCode)
}

// P4.1: what is handed in is not changed, and an answer shares memory with nothing, itself neither.
func TestMemoryOfItsOwn(t *testing.T) {
	given := func() api.Image {
		m := texts(code(out(1), branch(api.Beq, 1, 0, 3), call(9), jump(-8), trap, table(0, 0)), code(nop, ret))
		m.Tables = [][]int{[]int{0, 5, 7, 7}[:2], nil, []int{8, 8, 3}[:2]}
		m.Data = []int{1, 2, 3}[:1]
		m.Lines = []api.Line{{At: 0, N: 4}, {At: 3, N: 6}, {At: 5, N: 9}}[:2]
		m.Text = append(m.Text, 9, 9)[:len(m.Text)]
		m.Funcs = append(m.Funcs, api.Func{Name: "spare"})[:len(m.Funcs)]
		return m
	}
	whole := func(m api.Image) api.Image {
		tables := plain(m.Tables[:cap(m.Tables)])
		for k, l := range tables {
			tables[k] = l[:cap(l)]
		}
		return api.Image{Text: m.Text[:len(m.Text)+2], Funcs: m.Funcs[:len(m.Funcs)+1], Tables: tables, Data: m.Data[:3], Lines: m.Lines[:3]}
	}
	m, before := given(), given()
	first := recovered(t, "first", m)
	want := recovered(t, "second", m)
	if !reflect.DeepEqual(whole(m), whole(before)) {
		t.Errorf("Recover changed what it was given: %v", m)
	}
	for k := range first.Blocks {
		spoil(t, &first.Blocks[k].At, &first, 77)
		spoil(t, &first.Blocks[k].Lines, &first, 77)
		spoil(t, &first.Blocks[k].Code, &first, api.Instr{Kind: 77})
	}
	for k := range first.Tables {
		spoil(t, &first.Tables[k], &first, 77)
	}
	spoil(t, &first.Firsts, &first, 77)
	if !reflect.DeepEqual(whole(m), whole(before)) {
		t.Error("the answer shares memory with what was given")
	}
	recovers(t, "once more", m, want)
}

// spoil the memory of a list of a flow, spare room too, and put a copy in its place, to see that nothing else of the flow has another value then.
func spoil[T any](t *testing.T, l *[]T, f *api.Flow, value T) {
	t.Helper()
	was := fmt.Sprint(*f)
	room := (*l)[:cap(*l)]
	*l = plain(*l)
	for k := range room {
		room[k] = value
	}
	if now := fmt.Sprint(*f); now != was {
		t.Errorf("lists share memory: %s, was %s", now, was)
	}
}

// The same program has the same flow, each time.
func TestSameEachTime(t *testing.T) {
	m := texts(make([]byte, 500), code(nop, ret))
	m.Tables = [][]int{{499, 3, 77}, {501}}
	want := recovered(t, "first", m)
	for range 20 {
		recovers(t, "again", m, want)
	}
}
