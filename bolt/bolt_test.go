package bolt_test

import (
	"bytes"
	"fmt"
	"reflect"
	"slices"
	"strings"
	"testing"

	"bolthole/api"
	"bolthole/bolt"
	"bolthole/image"
	"bolthole/isa"
	"bolthole/step"
)

func bare(kind int) api.Instr { return api.Instr{Kind: kind} }

func li(d, n int) api.Instr { return api.Instr{Kind: api.Li, D: d, N: n} }

func addi(d, a, n int) api.Instr { return api.Instr{Kind: api.Addi, D: d, A: a, N: n} }

func in(d int) api.Instr { return api.Instr{Kind: api.In, D: d} }

func out(a int) api.Instr { return api.Instr{Kind: api.Out, A: a} }

func load(d, a, n int) api.Instr { return api.Instr{Kind: api.Load, D: d, A: a, N: n} }

func store(a, b, n int) api.Instr { return api.Instr{Kind: api.Store, A: a, B: b, N: n} }

func branch(kind, a, b, n int) api.Instr { return api.Instr{Kind: kind, A: a, B: b, N: n} }

func jump(n int) api.Instr { return api.Instr{Kind: api.Jump, N: n} }

func call(n int) api.Instr { return api.Instr{Kind: api.Call, N: n} }

func table(a, n int) api.Instr { return api.Instr{Kind: api.Table, A: a, N: n} }

func long(i api.Instr) api.Instr {
	i.Long = true
	return i
}

var (
	halt = bare(api.Halt)
	trap = bare(api.Trap)
	ret  = bare(api.Ret)
	nop  = bare(api.Nop)
)

// code: the bytes of instructions.
func code(l ...api.Instr) []byte {
	var text []byte
	for _, i := range l {
		b, e := isa.Encode(i)
		if e != api.OK {
			panic(fmt.Sprintf("%+v may not be: %v", i, e))
		}
		text = append(text, b...)
	}
	return text
}

// texts as a program, a function each: fa, fb, ..
func texts(parts ...[]byte) api.Image {
	var m api.Image
	for k, b := range parts {
		name := "f" + string(rune('a'+k))
		m.Funcs = append(m.Funcs, api.Func{Name: name, Start: len(m.Text), Size: len(b)})
		m.Text = append(m.Text, b...)
	}
	return m
}

// program of one function.
func program(l ...api.Instr) api.Image { return texts(code(l...)) }

func withTables(m api.Image, tables ...[]int) api.Image {
	m.Tables = tables
	return m
}

func withLines(m api.Image, lines ...api.Line) api.Image {
	m.Lines = lines
	return m
}

// raw: the bytes of an image, be it one that may be or not.
func raw(m api.Image) []byte {
	b := []byte("bh1\n")
	put := func(width, n int) {
		for k := range width {
			b = append(b, byte(uint64(n)>>(8*(width-1-k))))
		}
	}
	put(2, len(m.Text))
	b = append(b, m.Text...)
	put(1, len(m.Funcs))
	for _, f := range m.Funcs {
		put(1, len(f.Name))
		b = append(b, f.Name...)
		put(2, f.Size)
	}
	put(1, m.Entry)
	put(1, len(m.Tables))
	for _, l := range m.Tables {
		put(1, len(l))
		for _, at := range l {
			put(2, at)
		}
	}
	put(1, len(m.Data))
	for _, n := range m.Data {
		put(8, n)
	}
	put(2, len(m.Lines))
	for _, l := range m.Lines {
		put(2, l.At)
		put(2, l.N)
	}
	return b
}

// plain: an image whose lists' being nil or not, without elements, is told by nothing any more.
func plain(m api.Image) api.Image {
	c := image.Copy(m)
	c.Tables = nil
	for _, l := range m.Tables {
		c.Tables = append(c.Tables, append([]int{}, l...))
	}
	return c
}

func same(a, b api.Image) bool { return reflect.DeepEqual(plain(a), plain(b)) }

// optimized: the program that comes out, of one that is not refused.
func optimized(t *testing.T, m api.Image, s string) api.Image {
	t.Helper()
	c, e := bolt.Optimize(raw(m), s)
	if e != api.OK {
		t.Fatalf("Optimize(%v, %q) = %v, want OK", m, s, e)
	}
	x, e := image.Decode(c)
	if e != api.OK {
		t.Fatalf("Optimize(%v, %q) = %v: Decode = %v, want OK", m, s, c, e)
	}
	return x
}

// optimizes: by that tally that program comes out.
func optimizes(t *testing.T, what string, m api.Image, s string, want api.Image) {
	t.Helper()
	if x := optimized(t, m, s); !same(x, want) {
		t.Errorf("%s: Optimize(%v, %q) =\n%v, want\n%v", what, m, s, x, want)
	}
}

// refused: Optimize tells that error, and nothing else, whatever the tally says (P8.3).
func refused(t *testing.T, what string, b []byte, want api.Errno) {
	t.Helper()
	for _, s := range append([]string{"", "0 0 1\n", "4 7 2\n7 10 2\n15 4 2\n"}, badTallies()...) {
		if c, e := bolt.Optimize(b, s); e != want || len(c) != 0 {
			t.Errorf("%s, %q: Optimize = %v, %v, want nothing, %v", what, s, c, e, want)
		}
	}
}

// badTallies: one for each reason to refuse the text, all with edges of loop ahead.
func badTallies() []string {
	good := "7 10 2\n15 4 2\n4 7 2\n"
	bad := []string{strings.Repeat(good, 200) + "4 9 1\n"}
	for _, line := range []string{
		"4 9 1", "4 9", "\n", " \n", "4\n", "4 9\n", "4 9 1 \n", " 4 9 1\n", "4  9 1\n", "4 9 1 1\n", "4 9 1\r\n", "4\t9 1\n", "?\n",
		"-4 9 1\n", "4 +9 1\n", "4 9 01\n", "04 9 1\n", "4 9 -0\n", "4 9 1073741825\n", "4 1073741825 1\n", "1073741825 9 1\n",
		"4 9 99999999999999999999999\n", "4 9 0x1\n", "4 9 1.0\n", "4 9 a\n", "4 9 \n", "4 9 \u0661\n", "\x00", "\xff\n",
	} {
		bad = append(bad, good+line)
	}
	return bad
}

// loop: the document's example of the whole: it tells 2 and 1; its head is at 4, a Jump over the end at 7, the end at 9, the body at 10.
func loop() api.Image {
	return program(li(1, 2), branch(api.Beq, 1, 0, 5), jump(3), halt, out(1), addi(1, 1, -1), jump(-11))
}

// P8.1: the document's example of the whole, to the byte.
func TestLoop(t *testing.T) {
	b := []byte{
		'b', 'h', '1', 10,
		0, 17, 0x10, 1, 2, 0, 0x50, 0x10, 5, 0x60, 3, 0, 0x41, 1, 0x11, 0x11, 0xff, 0x60, 0xf5,
		1, 4, 'l', 'o', 'o', 'p', 0, 17,
		0, 1, 1, 0, 10, 1, 255, 255, 255, 255, 255, 255, 255, 254,
		0, 2, 0, 4, 0, 30, 0, 10, 0, 60,
	}
	want := []byte{
		'b', 'h', '1', 10,
		0, 15, 0x10, 1, 2, 0, 0x50, 0x10, 10, 0x41, 1, 0x11, 0x11, 0xff, 0x60, 0xf8, 0,
		1, 4, 'l', 'o', 'o', 'p', 0, 15,
		0, 1, 1, 0, 7, 1, 255, 255, 255, 255, 255, 255, 255, 254,
		0, 3, 0, 4, 0, 30, 0, 7, 0, 60, 0, 14, 0, 30,
	}
	c, e := bolt.Optimize(b, "4 7 2\n7 10 2\n15 4 2\n4 9 1\n")
	if e != api.OK || !bytes.Equal(c, want) {
		t.Errorf("Optimize = %v, %v, want\n%v", c, e, want)
	}
	was, _ := step.Run(loop(), nil, 100)
	now, _ := step.Run(optimized(t, loop(), "4 7 2\n7 10 2\n15 4 2\n4 9 1\n"), nil, 100)
	if !slices.Equal(now.Told, []int{2, 1}) || now.End != api.Halted || was.Steps != 12 || now.Steps != 10 {
		t.Errorf("it was %v, it is %v", was, now)
	}
}

// P8.1: the order is the one that the tally gives, edge by edge.
func TestOrderByTally(t *testing.T) {
	bodyAheadOfHead := program(li(1, 2), jump(7), out(1), addi(1, 1, -1), branch(api.Bne, 1, 0, -5), halt)
	bodyBehindHead := program(li(1, 2), branch(api.Beq, 1, 0, 10), out(1), addi(1, 1, -1), jump(-8), halt)
	endBehindHead := program(li(1, 2), branch(api.Bne, 1, 0, 4), halt, out(1), addi(1, 1, -1), jump(-9))
	jumpBehindHead := program(li(1, 2), jump(7), out(1), addi(1, 1, -1), branch(api.Beq, 1, 0, 5), jump(-8), halt)
	for _, c := range []struct {
		s    string
		want api.Image
	}{
		{"", loop()},
		{"0 4 1\n", loop()},
		{"7 10 1\n", bodyAheadOfHead},
		{"4 7 2\n7 10 2\n15 4 2\n", bodyBehindHead},
		{"4 7 2\n7 10 2\n15 4 1\n0 4 1\n", bodyBehindHead},
		{"4 7 2\n4 9 3\n7 10 2\n15 4 2\n", bodyAheadOfHead},
		{"0 4 2\n4 7 2\n4 9 3\n7 10 2\n15 4 2\n", endBehindHead},
		{"4 9 3\n", endBehindHead},
		{"15 4 1\n", jumpBehindHead},
	} {
		optimizes(t, "a loop", loop(), c.s, c.want)
	}
}

// twoFuncs: the first one calls the second one, which tells 3, 2, 1, and chooses by a table how it ends.
func twoFuncs() api.Image {
	m := texts(
		code(li(1, 3), call(4), halt),
		code(out(1), addi(1, 1, -1), branch(api.Bne, 1, 0, -5), table(1, 0), trap, ret),
	)
	m.Tables = [][]int{{20, 8}, {}, {0}}
	m.Data = []int{-5, api.MaxInt}
	m.Lines = []api.Line{{At: 0, N: 1}, {At: 4, N: 2}, {At: 7, N: 0}, {At: 8, N: 7}, {At: 20, N: 9}}
	return m
}

// P8.1: a hot function stands ahead; Entry, Calls, Tables, names, Data and Lines are brought along.
func TestHotFunction(t *testing.T) {
	m := twoFuncs()
	want := texts(
		code(out(1), addi(1, 1, -1), branch(api.Bne, 1, 0, -5), table(1, 0), ret, trap),
		code(li(1, 3), call(-17), halt),
	)
	want.Funcs[0].Name, want.Funcs[1].Name = "fb", "fa"
	want.Entry = 1
	want.Tables = [][]int{{11, 0}, {}, {13}}
	want.Data = m.Data
	want.Lines = []api.Line{{At: 0, N: 7}, {At: 11, N: 9}, {At: 12, N: 7}, {At: 13, N: 1}, {At: 17, N: 2}, {At: 20, N: 0}}
	optimizes(t, "a hot function", m, "13 8 2\n13 16 1\n16 20 1\n", want)
	optimizes(t, "as it stood", m, "4 8 5\n20 7 5\n0 0 9\n", m)
}

// P8.1: what is refused on the way is refused with the same error: bytes that are of no image (P2.4).
func TestRefusedBytes(t *testing.T) {
	b := raw(twoFuncs())
	for n := range b {
		refused(t, fmt.Sprint("cut off after ", n), b[:n], api.ErrShort)
	}
	refused(t, "a byte more", append(slices.Clone(b), 0), api.ErrForm)
	refused(t, "as many as may be", append(slices.Clone(b), make([]byte, api.MaxImage-len(b))...), api.ErrForm)
	refused(t, "too many", append(slices.Clone(b), make([]byte, api.MaxImage+1-len(b))...), api.ErrSize)
	refused(t, "too many, of nothing", make([]byte, api.MaxImage+1), api.ErrSize)
	for k := range 4 {
		wrong := slices.Clone(b)
		wrong[k] ^= 1
		refused(t, fmt.Sprint("another byte at ", k), wrong, api.ErrForm)
		refused(t, fmt.Sprint("another byte at the end, at ", k), wrong[:k+1], api.ErrForm)
	}
}

// P8.1: what is refused on the way is refused with the same error: images that may not be (P2.1), and code that can't be followed (P4.1).
func TestRefusedPrograms(t *testing.T) {
	entry, data := loop(), loop()
	entry.Entry = 1
	data.Data = []int{-api.MaxInt - 1}
	for _, c := range []struct {
		what string
		m    api.Image
		want api.Errno
	}{
		{"nothing", api.Image{}, api.ErrNone},
		{"no such Entry", entry, api.ErrNone},
		{"a great word", data, api.ErrRange},
		{"too many words", api.Image{Text: []byte{0}, Funcs: []api.Func{{Name: "f", Size: 1}}, Data: make([]int, api.MaxData+1)}, api.ErrSize},
		{"a name", api.Image{Text: []byte{0}, Funcs: []api.Func{{Name: "F", Size: 1}}}, api.ErrForm},
		{"a name twice", api.Image{Text: []byte{0, 0}, Funcs: []api.Func{{Name: "f", Size: 1}, {Name: "f", Size: 1}}}, api.ErrTwice},
		{"a byte of no function", api.Image{Text: []byte{0, 0}, Funcs: []api.Func{{Name: "f", Size: 1}}}, api.ErrOrder},
		{"an address behind the text", withTables(loop(), []int{17}), api.ErrRange},
		{"a line too great", withLines(loop(), api.Line{N: api.MaxLine + 1}), api.ErrRange},
		{"lines out of order", withLines(loop(), api.Line{At: 4}, api.Line{At: 4}), api.ErrOrder},
		{"more than MaxText", texts(make([]byte, api.MaxText+1)), api.ErrSize},
		{"more than MaxFirst", texts(make([]byte, api.MaxFirst+1)), api.ErrSize},
		{"more than MaxFirst, and no instructions", texts(bytes.Repeat([]byte{0xff}, api.MaxFirst+1)), api.ErrSize},
		{"no instruction", texts([]byte{0xff, 0}), api.ErrCode},
		{"an instruction that may not be", texts([]byte{0x41, 8, 0}), api.ErrCode},
		{"an instruction cut off", texts([]byte{0x41}, []byte{1, 0}), api.ErrCode},
		{"an end that goes on", program(halt, nop), api.ErrCode},
		{"an end that branches", program(branch(api.Beq, 0, 0, 0)), api.ErrCode},
		{"an end that calls", program(call(0)), api.ErrCode},
		{"an address within an instruction", withTables(loop(), []int{1}), api.ErrCode},
		{"a Jump into an instruction", program(jump(1), halt), api.ErrCode},
		{"a Jump behind the text", program(jump(2)), api.ErrCode},
		{"a branch to another function", texts(code(branch(api.Bge, 0, 0, 4), halt), code(halt)), api.ErrCode},
		{"a Call to no function", program(call(3), halt), api.ErrCode},
		{"a Table of another function", withTables(texts(code(table(1, 0)), code(halt)), []int{3}), api.ErrCode},
	} {
		refused(t, c.what, raw(c.m), c.want)
	}
}

// P8.1: the longest code that is not refused.
func TestMaxFirst(t *testing.T) {
	m := texts(make([]byte, api.MaxFirst))
	optimizes(t, "as many bytes as may be", m, "", m)
	optimizes(t, "as many bytes as may be", m, "0 1999 5\n", m)
}

// P8.1: the bytes that are handed in are not changed, and what comes out shares none with them, nor with another answer.
func TestMemory(t *testing.T) {
	s := "4 7 2\n7 10 2\n15 4 2\n"
	b := append(raw(loop()), 1, 2, 3)
	kept := slices.Clone(b)
	c, _ := bolt.Optimize(b[:len(b)-3], s)
	if !bytes.Equal(b, kept) {
		t.Error("what was handed in is another one")
	}
	want := slices.Clone(c)
	clear(b)
	d, _ := bolt.Optimize(kept[:len(kept)-3], s)
	clear(d[:cap(d)])
	if !bytes.Equal(c, want) {
		t.Error("what came out is another one")
	}
	if d, _ := bolt.Optimize(kept[:len(kept)-3], s); !bytes.Equal(d, want) {
		t.Error("what comes out is another one")
	}
}
