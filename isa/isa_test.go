package isa_test

import (
	"bytes"
	"math"
	"testing"

	"bolthole/api"
	"bolthole/isa"
)

// sample: an instruction, and the bytes that the chapter gives it.
type sample struct {
	instr api.Instr
	bytes []byte
}

// samples of each Kind, with operands that all differ, and at the bounds of N.
var samples = []sample{
	{api.Instr{Kind: api.Halt}, []byte{0x00}},
	{api.Instr{Kind: api.Trap}, []byte{0x01}},
	{api.Instr{Kind: api.Ret}, []byte{0x02}},
	{api.Instr{Kind: api.Nop}, []byte{0x03}},
	{api.Instr{Kind: api.Li, D: 3, N: -2}, []byte{0x10, 3, 0xfe, 0xff}},
	{api.Instr{Kind: api.Li, D: 7, N: 32767}, []byte{0x10, 7, 0xff, 0x7f}},
	{api.Instr{Kind: api.Li, D: 7, N: -32768}, []byte{0x10, 7, 0x00, 0x80}},
	{api.Instr{Kind: api.Li, N: 0x1234}, []byte{0x10, 0, 0x34, 0x12}},
	{api.Instr{Kind: api.Addi, D: 1, A: 2, N: -1}, []byte{0x11, 0x12, 0xff}},
	{api.Instr{Kind: api.Addi, D: 7, A: 6, N: 127}, []byte{0x11, 0x76, 0x7f}},
	{api.Instr{Kind: api.Addi, D: 6, A: 7, N: -128}, []byte{0x11, 0x67, 0x80}},
	{api.Instr{Kind: api.Add, D: 1, A: 2, B: 3}, []byte{0x20, 0x12, 3}},
	{api.Instr{Kind: api.Sub, D: 7, A: 6, B: 5}, []byte{0x21, 0x76, 5}},
	{api.Instr{Kind: api.Mul, D: 5, A: 6, B: 7}, []byte{0x22, 0x56, 7}},
	{api.Instr{Kind: api.And, D: 1, A: 2, B: 3}, []byte{0x23, 0x12, 3}},
	{api.Instr{Kind: api.Or, D: 1, A: 2, B: 3}, []byte{0x24, 0x12, 3}},
	{api.Instr{Kind: api.Xor, D: 1, A: 2, B: 3}, []byte{0x25, 0x12, 3}},
	{api.Instr{Kind: api.Slt, D: 1, A: 2, B: 3}, []byte{0x26, 0x12, 3}},
	{api.Instr{Kind: api.Load, D: 4, A: 5, N: 6}, []byte{0x30, 0x45, 6}},
	{api.Instr{Kind: api.Load, D: 4, A: 5, N: -128}, []byte{0x30, 0x45, 0x80}},
	{api.Instr{Kind: api.Load, D: 4, A: 5, N: 127}, []byte{0x30, 0x45, 0x7f}},
	{api.Instr{Kind: api.Store, A: 4, B: 5, N: 6}, []byte{0x31, 0x54, 6}},
	{api.Instr{Kind: api.Store, A: 4, B: 5, N: -128}, []byte{0x31, 0x54, 0x80}},
	{api.Instr{Kind: api.Store, A: 4, B: 5, N: 127}, []byte{0x31, 0x54, 0x7f}},
	{api.Instr{Kind: api.In, D: 7}, []byte{0x40, 7}},
	{api.Instr{Kind: api.Out, A: 6}, []byte{0x41, 6}},
	{api.Instr{Kind: api.Beq, A: 1, B: 2, N: 3}, []byte{0x50, 0x12, 3}},
	{api.Instr{Kind: api.Bne, A: 1, B: 2, N: -3}, []byte{0x51, 0x12, 0xfd}},
	{api.Instr{Kind: api.Blt, A: 1, B: 2, N: -128}, []byte{0x52, 0x12, 0x80}},
	{api.Instr{Kind: api.Bge, A: 1, B: 2, N: 127}, []byte{0x53, 0x12, 0x7f}},
	{api.Instr{Kind: api.Beq, A: 1, B: 2, N: 3, Long: true}, []byte{0x54, 0x12, 3, 0}},
	{api.Instr{Kind: api.Bne, A: 1, B: 2, N: -3, Long: true}, []byte{0x55, 0x12, 0xfd, 0xff}},
	{api.Instr{Kind: api.Blt, A: 1, B: 2, N: -32768, Long: true}, []byte{0x56, 0x12, 0x00, 0x80}},
	{api.Instr{Kind: api.Bge, A: 1, B: 2, N: 32767, Long: true}, []byte{0x57, 0x12, 0xff, 0x7f}},
	{api.Instr{Kind: api.Bge, A: 1, B: 2, N: 300, Long: true}, []byte{0x57, 0x12, 0x2c, 0x01}},
	{api.Instr{Kind: api.Jump, N: -128}, []byte{0x60, 0x80}},
	{api.Instr{Kind: api.Jump, N: 127}, []byte{0x60, 0x7f}},
	{api.Instr{Kind: api.Jump, Long: true}, []byte{0x61, 0, 0}},
	{api.Instr{Kind: api.Jump, N: -32768, Long: true}, []byte{0x61, 0x00, 0x80}},
	{api.Instr{Kind: api.Jump, N: 32767, Long: true}, []byte{0x61, 0xff, 0x7f}},
	{api.Instr{Kind: api.Call, N: 5}, []byte{0x62, 5, 0}},
	{api.Instr{Kind: api.Call, N: -32768}, []byte{0x62, 0x00, 0x80}},
	{api.Instr{Kind: api.Call, N: 32767}, []byte{0x62, 0xff, 0x7f}},
	{api.Instr{Kind: api.Table, A: 7}, []byte{0x63, 7, 0}},
	{api.Instr{Kind: api.Table, A: 3, N: api.MaxTables - 1}, []byte{0x63, 3, 19}},
}

// firsts: which bytes instructions begin with, how many bytes these have, and in how many ways the next two bytes of a text may be filled.
var firsts = map[byte]struct{ size, ways int }{
	0x00: {1, 256 * 256}, 0x01: {1, 256 * 256}, 0x02: {1, 256 * 256}, 0x03: {1, 256 * 256},
	0x10: {4, 8 * 256}, 0x11: {3, 8 * 8 * 256},
	0x20: {3, 8 * 8 * 8}, 0x21: {3, 8 * 8 * 8}, 0x22: {3, 8 * 8 * 8}, 0x23: {3, 8 * 8 * 8},
	0x24: {3, 8 * 8 * 8}, 0x25: {3, 8 * 8 * 8}, 0x26: {3, 8 * 8 * 8},
	0x30: {3, 8 * 8 * 256}, 0x31: {3, 8 * 8 * 256},
	0x40: {2, 8 * 256}, 0x41: {2, 8 * 256},
	0x50: {3, 8 * 8 * 256}, 0x51: {3, 8 * 8 * 256}, 0x52: {3, 8 * 8 * 256}, 0x53: {3, 8 * 8 * 256},
	0x54: {4, 8 * 8 * 256}, 0x55: {4, 8 * 8 * 256}, 0x56: {4, 8 * 8 * 256}, 0x57: {4, 8 * 8 * 256},
	0x60: {2, 256 * 256}, 0x61: {3, 256 * 256}, 0x62: {3, 256 * 256}, 0x63: {3, 8 * api.MaxTables},
}

// operandsOf each Kind, as package api tells them.
var operandsOf = [api.Table + 1]string{
	api.Li: "DN", api.Addi: "DAN",
	api.Add: "DAB", api.Sub: "DAB", api.Mul: "DAB", api.And: "DAB", api.Or: "DAB", api.Xor: "DAB", api.Slt: "DAB",
	api.Load: "DAN", api.Store: "ABN", api.In: "D", api.Out: "A",
	api.Beq: "ABNL", api.Bne: "ABNL", api.Blt: "ABNL", api.Bge: "ABNL",
	api.Jump: "NL", api.Call: "N", api.Table: "AN",
}

func has(kind int, operand byte) bool {
	return bytes.IndexByte([]byte(operandsOf[kind]), operand) >= 0
}

// with an operand set to n.
func with(i api.Instr, operand byte, n int) api.Instr {
	switch operand {
	case 'D':
		i.D = n
	case 'A':
		i.A = n
	case 'B':
		i.B = n
	case 'N':
		i.N = n
	case 'L':
		i.Long = true
	}
	return i
}

// refused: Check, Size and Encode tell the same error, and nothing else.
func refused(t *testing.T, i api.Instr, want api.Errno) {
	t.Helper()
	if e := isa.Check(i); e != want {
		t.Errorf("Check(%+v) = %v, want %v", i, e, want)
	}
	if n, e := isa.Size(i); n != 0 || e != want {
		t.Errorf("Size(%+v) = %d, %v, want 0, %v", i, n, e, want)
	}
	if b, e := isa.Encode(i); len(b) != 0 || e != want {
		t.Errorf("Encode(%+v) = %v, %v, want none, %v", i, b, e, want)
	}
}

func accepted(t *testing.T, i api.Instr) {
	t.Helper()
	if e := isa.Check(i); e != api.OK {
		t.Errorf("Check(%+v) = %v, want OK", i, e)
	}
}

// P1.1: what may be.
func TestCheckAccepts(t *testing.T) {
	for _, s := range samples {
		accepted(t, s.instr)
	}
	for kind := api.Halt; kind <= api.Table; kind++ {
		for _, operand := range []byte("DAB") {
			for n := 0; n < api.Regs && has(kind, operand); n++ {
				accepted(t, with(api.Instr{Kind: kind}, operand, n))
			}
		}
	}
}

// P1.1: no such Kind, whatever else is wrong.
func TestCheckKind(t *testing.T) {
	for _, kind := range []int{math.MinInt, -1, 0, api.Table + 1, 256 + api.Halt, math.MaxInt} {
		refused(t, api.Instr{Kind: kind}, api.ErrKind)
		refused(t, api.Instr{Kind: kind, D: 8, A: -1, B: 9, N: 1 << 40, Long: true}, api.ErrKind)
	}
}

// P1.1: an operand that the Kind has not, of each Kind, ahead of numbers outside their bounds.
func TestCheckForm(t *testing.T) {
	for kind := api.Halt; kind <= api.Table; kind++ {
		for _, operand := range []byte("DABNL") {
			if has(kind, operand) {
				continue
			}
			for _, n := range []int{1, -1, 8, math.MaxInt, math.MinInt} {
				refused(t, with(api.Instr{Kind: kind}, operand, n), api.ErrForm)
			}
			for _, other := range []byte("DABN") {
				if has(kind, other) {
					refused(t, with(with(api.Instr{Kind: kind}, other, 1<<40), operand, 1), api.ErrForm)
				}
			}
		}
	}
}

// P1.1: registers outside their bounds, of each Kind that has them.
func TestCheckRegisters(t *testing.T) {
	for kind := api.Halt; kind <= api.Table; kind++ {
		for _, operand := range []byte("DAB") {
			if !has(kind, operand) {
				continue
			}
			for _, n := range []int{math.MinInt, -1, api.Regs, 256, math.MaxInt} {
				i := with(api.Instr{Kind: kind}, operand, n)
				refused(t, i, api.ErrRange)
				if has(kind, 'L') {
					refused(t, with(i, 'L', 1), api.ErrRange)
				}
			}
		}
	}
}

// bounds of N, as the chapter tells them.
func bounds(kind int, long bool) (int, int) {
	switch {
	case kind == api.Li || kind == api.Call || long:
		return -32768, 32767
	case kind == api.Table:
		return 0, 19
	}
	return -128, 127
}

// P1.1: N at its bounds and beyond, of each Kind that has it.
func TestCheckNumber(t *testing.T) {
	for kind := api.Halt; kind <= api.Table; kind++ {
		for _, long := range []bool{false, true} {
			if !has(kind, 'N') || long && !has(kind, 'L') {
				continue
			}
			i := api.Instr{Kind: kind, Long: long}
			low, high := bounds(kind, long)
			for _, n := range []int{low, 0, high} {
				accepted(t, with(i, 'N', n))
			}
			for _, n := range []int{math.MinInt, low - 1, high + 1, 1 << 16, math.MaxInt} {
				refused(t, with(i, 'N', n), api.ErrRange)
			}
		}
	}
}

// P1.2: bytes, and how many.
func TestEncodeAndSize(t *testing.T) {
	for _, s := range samples {
		b, e := isa.Encode(s.instr)
		if e != api.OK || !bytes.Equal(b, s.bytes) {
			t.Errorf("Encode(%+v) = % x, %v, want % x", s.instr, b, e, s.bytes)
		}
		n, e := isa.Size(s.instr)
		if e != api.OK || n != len(s.bytes) {
			t.Errorf("Size(%+v) = %d, %v, want %d", s.instr, n, e, len(s.bytes))
		}
	}
}

// P1.2: what one call answers is its own.
func TestEncodeAnswersNewMemory(t *testing.T) {
	for _, s := range samples {
		one, _ := isa.Encode(s.instr)
		one = one[:cap(one)]
		for at := range one {
			one[at] ^= 0xff
		}
		two, _ := isa.Encode(s.instr)
		if !bytes.Equal(two, s.bytes) {
			t.Errorf("Encode(%+v), once more: % x, want % x", s.instr, two, s.bytes)
		}
	}
}

// notDecoded: Decode tells an error, and nothing else.
func notDecoded(t *testing.T, text []byte, at int, want api.Errno) {
	t.Helper()
	i, n, e := isa.Decode(text, at)
	if i != (api.Instr{}) || n != 0 || e != want {
		t.Errorf("Decode(% x, %d) = %+v, %d, %v, want nothing, %v", text, at, i, n, e, want)
	}
}

// P1.3: instructions at the beginning, within a text, and at its end.
func TestDecode(t *testing.T) {
	for _, s := range samples {
		for _, ahead := range [][]byte{nil, {0x03}, {0xff, 0x70}} {
			for _, behind := range [][]byte{nil, {0xff, 0xff, 0xff, 0xff}} {
				text := bytes.Join([][]byte{ahead, s.bytes, behind}, nil)
				i, n, e := isa.Decode(text, len(ahead))
				if i != s.instr || n != len(s.bytes) || e != api.OK {
					t.Errorf("Decode(% x, %d) = %+v, %d, %v, want %+v", text, len(ahead), i, n, e, s.instr)
				}
			}
		}
	}
}

// P1.3: nothing stands there.
func TestDecodeOutside(t *testing.T) {
	for _, text := range [][]byte{nil, {}, {0x03}, {0x70, 0x70, 0x70}, make([]byte, 2, 9)} {
		for _, at := range []int{math.MinInt, -1, len(text), len(text) + 1, math.MaxInt} {
			notDecoded(t, text, at, api.ErrRange)
		}
	}
}

// P1.3: no instruction begins so, though the text may end, too.
func TestDecodeKind(t *testing.T) {
	for first := range 256 {
		if _, ok := firsts[byte(first)]; !ok {
			notDecoded(t, []byte{byte(first)}, 0, api.ErrKind)
			notDecoded(t, []byte{0x03, byte(first), 0, 0, 0, 0}, 1, api.ErrKind)
		}
	}
}

// P1.3: the text ends within it, though its bytes may not be, too; spare room is no text.
func TestDecodeShort(t *testing.T) {
	for first, want := range firsts {
		for _, fill := range []byte{0x00, 0xff} {
			text := append([]byte{0x03, first}, bytes.Repeat([]byte{fill}, 5)...)
			for size := 1; size < want.size; size++ {
				notDecoded(t, text[:1+size], 1, api.ErrShort)
			}
		}
	}
}

// P1.3: registers and tables that may not be.
func TestDecodeForm(t *testing.T) {
	for _, text := range [][]byte{
		{0x10, 8, 0, 0}, {0x10, 0x10, 0, 0}, {0x10, 0xff, 0, 0},
		{0x11, 0x80, 0}, {0x11, 0x08, 0},
		{0x20, 0x80, 0}, {0x20, 0x08, 0}, {0x20, 0x00, 8}, {0x26, 0x00, 0x10},
		{0x30, 0x80, 0}, {0x30, 0x08, 0}, {0x31, 0x80, 0}, {0x31, 0x08, 0},
		{0x40, 8}, {0x40, 0x10}, {0x41, 8}, {0x41, 0xff},
		{0x50, 0x80, 0}, {0x53, 0x08, 0}, {0x54, 0x80, 0, 0}, {0x57, 0x08, 0, 0},
		{0x63, 8, 0}, {0x63, 0x10, 0}, {0x63, 0, 20}, {0x63, 0, 128}, {0x63, 0, 255},
	} {
		notDecoded(t, text, 0, api.ErrForm)
		notDecoded(t, append([]byte{0xff}, text...), 1, api.ErrForm)
	}
}

// decodable: in how many ways the two bytes behind a first one may be filled; what is decoded is encoded as it was.
func decodable(t *testing.T, first byte, size int) int {
	t.Helper()
	count := 0
	for rest := range 256 * 256 {
		text := []byte{first, byte(rest >> 8), byte(rest), 0x85}
		i, n, e := isa.Decode(text, 0)
		if e != api.OK {
			notDecoded(t, text, 0, api.ErrForm)
			continue
		}
		count++
		b, e := isa.Encode(i)
		if e != api.OK || n != size || !bytes.Equal(b, text[:size]) {
			t.Fatalf("% x: Decode says %+v, %d; Encode of that % x, %v", text, i, n, b, e)
		}
	}
	return count
}

// P1.2, P1.3: each first byte with each second and third one.
func TestDecodeThenEncode(t *testing.T) {
	for first, want := range firsts {
		if n := decodable(t, first, want.size); n != want.ways {
			t.Errorf("%#x: %d ways to go on, want %d", first, n, want.ways)
		}
	}
}

// roundTrip: what is encoded is decoded as it was.
func roundTrip(t *testing.T, i api.Instr) {
	t.Helper()
	b, e := isa.Encode(i)
	if e != api.OK {
		t.Fatalf("Encode(%+v) = %v", i, e)
	}
	x, n, e := isa.Decode(b, 0)
	if x != i || n != len(b) || e != api.OK {
		t.Fatalf("Decode(Encode(%+v)) = %+v, %d, %v", i, x, n, e)
	}
}

// P1.2, P1.3: each N of each Kind that has it.
func TestEncodeThenDecode(t *testing.T) {
	for kind := api.Halt; kind <= api.Table; kind++ {
		for _, long := range []bool{false, true} {
			if long && !has(kind, 'L') {
				continue
			}
			i := api.Instr{Kind: kind, Long: long}
			for at, operand := range []byte("DAB") {
				if has(kind, operand) {
					i = with(i, operand, 7-2*at)
				}
			}
			low, high := bounds(kind, long)
			for n := low; n <= high && has(kind, 'N'); n++ {
				roundTrip(t, with(i, 'N', n))
			}
			roundTrip(t, i)
		}
	}
}

// P1.3: the text is not changed, its spare room neither.
func TestDecodeLeavesTextAlone(t *testing.T) {
	for _, s := range samples {
		whole := append(append([]byte{}, s.bytes...), 0xaa, 0xbb, 0xcc)
		text := whole[:len(s.bytes)]
		isa.Decode(text, 0)
		if want := append(append([]byte{}, s.bytes...), 0xaa, 0xbb, 0xcc); !bytes.Equal(whole, want) {
			t.Errorf("Decode left % x, want % x", whole, want)
		}
	}
}
