package flow

import (
	"slices"

	"bolthole/api"
	"bolthole/isa"
)

// item: an instruction of a program, the place of its function, its address, and how many bytes it has.
type item struct {
	instr api.Instr
	owner int
	at    int
	size  int
}

// target: where a branch, a Jump or a Call leads.
func (i item) target() int { return i.at + i.instr.N }

// behind: the address of the next one.
func (i item) behind() int { return i.at + i.size }

func isBranch(kind int) bool { return kind >= api.Beq && kind <= api.Bge }

// leads: does it go on, by its N, within its function?
func leads(kind int) bool { return isBranch(kind) || kind == api.Jump }

func stops(kind int) bool {
	return kind == api.Halt || kind == api.Trap || kind == api.Ret || kind == api.Table
}

// readAll instructions of a program, one behind the other; whether each function is made of such, and has a last one behind which it does not go on.
func readAll(m api.Image) ([]item, bool) {
	var all []item
	for owner, f := range m.Funcs {
		// Without what is behind the function, so that no instruction reaches out of it.
		l, ok := readFrom(m.Text[:f.Start+f.Size], f.Start, owner)
		if !ok || !endsFunc(l[len(l)-1].instr.Kind) {
			return nil, false
		}
		all = append(all, l...)
	}
	return all, true
}

// readFrom an address on the instructions of a function, to the end of a text; there is at least one byte.
func readFrom(text []byte, at, owner int) ([]item, bool) {
	var l []item
	for at < len(text) {
		instr, size, e := isa.Decode(text, at)
		if e != api.OK {
			return nil, false
		}
		l = append(l, item{instr: instr, owner: owner, at: at, size: size})
		at += size
	}
	return l, true
}

func endsFunc(kind int) bool { return stops(kind) || kind == api.Jump }

// canFollow: does all that instructions and Tables lead to begin where it may?
func canFollow(m api.Image, code []item) bool {
	owners := ownersOf(code)
	outside := func(at int) bool { _, ok := owners[at]; return !ok }
	for _, l := range m.Tables {
		if slices.ContainsFunc(l, outside) {
			return false
		}
	}
	funcAt := finder(m.Funcs)
	for _, i := range code {
		abroad := func(at int) bool { return outside(at) || owners[at] != i.owner }
		switch {
		case leads(i.instr.Kind) && abroad(i.target()):
			return false
		case i.instr.Kind == api.Call && funcAt(i.target()) < 0:
			return false
		case i.instr.Kind == api.Table && i.instr.N < len(m.Tables) && slices.ContainsFunc(m.Tables[i.instr.N], abroad):
			return false
		}
	}
	return true
}

// ownersOf addresses where instructions begin: the places of their functions.
func ownersOf(code []item) map[int]int {
	owners := make(map[int]int, len(code))
	for _, i := range code {
		owners[i.at] = i.owner
	}
	return owners
}

// finder of functions: it answers the place of the one that begins at an address; -1: none does.
func finder(funcs []api.Func) func(at int) int {
	return func(at int) int {
		return slices.IndexFunc(funcs, func(f api.Func) bool { return f.Start == at })
	}
}
