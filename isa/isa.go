// Package isa: instructions, and the bytes that they are.
package isa

import "bolthole/api"

// Check an instruction.
func Check(i api.Instr) api.Errno {
	if i.Kind < api.Halt || i.Kind > api.Table {
		return api.ErrKind
	}
	if !inForm(i) {
		return api.ErrForm
	}
	// A register that the Kind has not is 0 by now, and so within its bounds.
	if !isRegister(i.D) || !isRegister(i.A) || !isRegister(i.B) {
		return api.ErrRange
	}
	low, high := numberBounds(i)
	if i.N < low || i.N > high {
		return api.ErrRange
	}
	return api.OK
}

// Size of an instruction, in bytes.
func Size(i api.Instr) (int, api.Errno) {
	if e := Check(i); e != api.OK {
		return 0, e
	}
	return sizeOf(i), api.OK
}

// Encode an instruction.
func Encode(i api.Instr) ([]byte, api.Errno) {
	if e := Check(i); e != api.OK {
		return nil, e
	}
	s := shapes[operators[i.Kind].shape]
	b := make([]byte, 0, sizeOf(i))
	b = append(b, firstByte(i))
	if s.lower != none {
		b = append(b, byte(16*register(i, s.upper)+register(i, s.lower)))
	}
	if s.third != none {
		b = append(b, byte(register(i, s.third)))
	}
	for place := range numberWidth(i) {
		b = append(b, byte(i.N>>(8*place)))
	}
	return b, api.OK
}

// Decode the instruction that stands at an address; how many bytes it has.
func Decode(text []byte, at int) (api.Instr, int, api.Errno) {
	if at < 0 || at >= len(text) {
		return api.Instr{}, 0, api.ErrRange
	}
	kind, long := kindOf(text[at])
	if kind == 0 {
		return api.Instr{}, 0, api.ErrKind
	}
	i := api.Instr{Kind: kind, Long: long}
	size := sizeOf(i)
	if size > len(text)-at {
		return api.Instr{}, 0, api.ErrShort
	}
	i = withOperands(i, text[at+1:at+size])
	if Check(i) != api.OK {
		return api.Instr{}, 0, api.ErrForm
	}
	return i, size, api.OK
}

// inForm: has it no operand that its Kind has not? There is such a Kind.
func inForm(i api.Instr) bool {
	o := operators[i.Kind]
	s := shapes[o.shape]
	return (i.D == 0 || s.has(regD)) &&
		(i.A == 0 || s.has(regA)) &&
		(i.B == 0 || s.has(regB)) &&
		(i.N == 0 || s.width > 0) &&
		(!i.Long || o.long > 0)
}

func isRegister(n int) bool { return n >= 0 && n < api.Regs }

// numberBounds: the least and the greatest N that it may have.
func numberBounds(i api.Instr) (int, int) {
	if i.Kind == api.Table {
		return 0, api.MaxTables - 1
	}
	if numberWidth(i) == 2 {
		return -32768, 32767
	}
	return -128, 127
}

// numberWidth: in how many bytes N stands.
func numberWidth(i api.Instr) int {
	if i.Long {
		return 2
	}
	return shapes[operators[i.Kind].shape].width
}

// sizeOf an instruction of a Kind that there is; it hangs on nothing but that, and on Long.
func sizeOf(i api.Instr) int {
	s := shapes[operators[i.Kind].shape]
	size := 1 + numberWidth(i)
	if s.lower != none {
		size++
	}
	if s.third != none {
		size++
	}
	return size
}

func firstByte(i api.Instr) byte {
	if i.Long {
		return operators[i.Kind].long
	}
	return operators[i.Kind].first
}

// kindOf the instruction that begins with a byte, and whether it is Long; 0: none begins so.
func kindOf(first byte) (int, bool) {
	for kind := api.Halt; kind <= api.Table; kind++ {
		o := operators[kind]
		if o.first == first {
			return kind, false
		}
		// 0 says that the Kind is never Long, though it is a first byte, too.
		if o.long > 0 && o.long == first {
			return kind, true
		}
	}
	return 0, false
}

// withOperands: an instruction of a Kind, with what the bytes behind the first one say.
func withOperands(i api.Instr, rest []byte) api.Instr {
	at := 0
	number := func(width int) int {
		n := 0
		for place := range width {
			n += int(rest[at]) << (8 * place)
			at++
		}
		return n
	}
	s := shapes[operators[i.Kind].shape]
	if s.upper != none {
		pair := number(1)
		i = withRegister(i, s.upper, pair/16)
		i = withRegister(i, s.lower, pair%16)
	} else if s.lower != none {
		i = withRegister(i, s.lower, number(1))
	}
	if s.third != none {
		i = withRegister(i, s.third, number(1))
	}
	width := numberWidth(i)
	i.N = signed(number(width), width)
	return i
}

// signed: the number that stands in so many bytes; half of those that may stand there are below 0.
func signed(n, width int) int {
	if width == 1 && n > 127 {
		return n - 256
	}
	if width == 2 && n > 32767 {
		return n - 65536
	}
	return n
}

// register that an operand names; 0, if it is none.
func register(i api.Instr, operand int) int {
	switch operand {
	case regD:
		return i.D
	case regA:
		return i.A
	case regB:
		return i.B
	}
	return 0
}

func withRegister(i api.Instr, operand, n int) api.Instr {
	switch operand {
	case regD:
		i.D = n
	case regA:
		i.A = n
	case regB:
		i.B = n
	}
	return i
}
