package emit

import "bolthole/api"

// none: no block, or no address.
const none = -1

var opposites = [api.Bge + 1]int{
	api.Beq: api.Bne,
	api.Bne: api.Beq,
	api.Blt: api.Bge,
	api.Bge: api.Blt,
}

// item: an instruction of the program that is made.
type item struct {
	instr api.Instr // N is 0, if it leads to a block
	to    int       // the block to which a branch, a Jump or a Call leads, or none
	old   int       // the address where it was; none: it is new
	line  int
	at    int
}

// codeOf a block: its instructions, but for what ends it.
func codeOf(f api.Flow, b api.Block) []item {
	l := make([]item, len(b.Code))
	for k, i := range b.Code {
		l[k] = item{instr: i, to: none, old: b.At[k], line: b.Lines[k]}
		if i.Kind == api.Call {
			l[k].instr.N, l[k].to = 0, f.Firsts[i.N]
		}
	}
	return l
}

// endOf a block: the branch and the Jump that it needs, ahead of the next one.
func endOf(b api.Block, next int) []item {
	line := b.Lines[len(b.Lines)-1]
	newJump := func(to int) item { return item{instr: api.Instr{Kind: api.Jump}, to: to, old: none, line: line} }
	kept := func(i api.Instr, to int) item { return item{instr: i, to: to, old: b.At[len(b.At)-1], line: line} }
	switch {
	case b.Ends == api.Falls && b.To != next:
		return []item{newJump(b.To)}
	case b.Ends == api.Jumps && b.To != next:
		return []item{kept(api.Instr{Kind: api.Jump}, b.To)}
	case b.Ends == api.Chance && b.Else == next:
		return []item{kept(b.Last, b.To)}
	case b.Ends == api.Chance && b.To == next:
		return []item{kept(opposite(b.Last), b.Else)}
	case b.Ends == api.Chance:
		return []item{kept(b.Last, b.To), newJump(b.Else)}
	}
	return nil
}

// opposite: the branch that is taken where that one is not.
func opposite(i api.Instr) api.Instr {
	i.Kind = opposites[i.Kind]
	return i
}
