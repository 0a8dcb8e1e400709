package step

import "bolthole/api"

// last register: it has the address to which a Ret goes on.
const last = api.Regs - 1

// goesOn: no way in which a run ends.
const goesOn = 0

// machine that does a program; where it is, what it has told, and the inputs that are left.
type machine struct {
	registers [api.Regs]api.Value
	memory    []api.Value
	tables    [][]int
	inputs    []int
	told      []int
	at        int
}

// start of a program that may be.
func start(m api.Image, in []int) *machine {
	memory := make([]api.Value, len(m.Data))
	for k, n := range m.Data {
		memory[k] = number(n)
	}
	return &machine{memory: memory, tables: m.Tables, inputs: in, at: m.Funcs[m.Entry].Start}
}

func number(n int) api.Value { return api.Value{N: n} }

func address(at int) api.Value { return api.Value{N: at, Code: true} }

// ended: the run so far, as one that has ended.
func (c *machine) ended(end, steps int) api.Run {
	return api.Run{Told: c.told, End: end, Steps: steps, At: c.at}
}

// endAheadOf an instruction: how the run ends there, if it does.
func (c *machine) endAheadOf(i api.Instr) int {
	switch {
	case i.Kind == api.Trap:
		return api.Trapped
	case i.Kind == api.Halt:
		return api.Halted
	case c.isGuarded(i):
		return api.Guarded
	case !c.isThere(i):
		return api.Trapped
	}
	return goesOn
}

// isGuarded: has it an address where it needs a number, or a number where it needs an address?
func (c *machine) isGuarded(i api.Instr) bool {
	if i.Kind == api.Ret {
		return !c.registers[last].Code
	}
	return needsA(i.Kind) && c.registers[i.A].Code || needsB(i.Kind) && c.registers[i.B].Code
}

// needsA: is A needed as a number?
func needsA(kind int) bool {
	switch kind {
	case api.Addi, api.Load, api.Store, api.Out, api.Table:
		return true
	}
	return needsB(kind)
}

// needsB: is B needed as a number? (Not of a Store: that stores whatever it is.)
func needsB(kind int) bool { return isOperation(kind) || isBranch(kind) }

func isOperation(kind int) bool { return kind >= api.Add && kind <= api.Slt }

func isBranch(kind int) bool { return kind >= api.Beq && kind <= api.Bge }

// isThere: is there the word of memory, or the address in a Table, that it asks for? A is a number.
func (c *machine) isThere(i api.Instr) bool {
	a := c.registers[i.A].N
	switch i.Kind {
	case api.Load, api.Store:
		return isPlace(a+i.N, len(c.memory))
	case api.Table:
		return isPlace(i.N, len(c.tables)) && isPlace(a, len(c.tables[i.N]))
	}
	return true
}

// isPlace: is it one in a list of so many?
func isPlace(n, size int) bool { return n >= 0 && n < size }

// do an instruction of so many bytes, ahead of which the run does not end.
func (c *machine) do(i api.Instr, size int) {
	next := c.at + size
	a, b := c.registers[i.A].N, c.registers[i.B].N
	switch {
	case i.Kind == api.Li:
		c.registers[i.D] = number(i.N)
	case i.Kind == api.Addi:
		c.registers[i.D] = number(fold(a + i.N))
	case isOperation(i.Kind):
		c.registers[i.D] = number(operate(i.Kind, a, b))
	case i.Kind == api.Load:
		c.registers[i.D] = c.memory[a+i.N]
	case i.Kind == api.Store:
		c.memory[a+i.N] = c.registers[i.B]
	case i.Kind == api.In:
		c.registers[i.D] = number(c.nextInput())
	case i.Kind == api.Out:
		c.told = append(c.told, a)
	case isBranch(i.Kind) && !isTaken(i.Kind, a, b):
		// It is at the next one.
	case isBranch(i.Kind), i.Kind == api.Jump:
		next = c.at + i.N
	case i.Kind == api.Call:
		c.registers[last] = address(next)
		next = c.at + i.N
	case i.Kind == api.Ret:
		next = c.registers[last].N
	case i.Kind == api.Table:
		next = c.tables[i.N][a]
	}
	c.at = next
}

// nextInput; 0: there are no more.
func (c *machine) nextInput() int {
	if len(c.inputs) == 0 {
		return 0
	}
	n := c.inputs[0]
	c.inputs = c.inputs[1:]
	return n
}
