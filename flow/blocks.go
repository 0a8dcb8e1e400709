package flow

import (
	"bolthole/api"
	"bolthole/image"
)

// flowOf code that can be followed.
func flowOf(m api.Image, code []item) api.Flow {
	places := placesOf(m, code)
	funcAt := finder(m.Funcs)
	var f api.Flow
	for _, run := range cut(code, places) {
		b := blockOf(m, run, funcAt)
		f.Blocks = append(f.Blocks, goingOn(b, run[len(run)-1], places, len(f.Blocks)+1))
	}
	for _, l := range m.Tables {
		f.Tables = append(f.Tables, placesAt(l, places))
	}
	for _, g := range m.Funcs {
		f.Firsts = append(f.Firsts, places[g.Start])
	}
	return f
}

// placesOf blocks, by the addresses where they begin.
func placesOf(m api.Image, code []item) map[int]int {
	begins := map[int]int{}
	begin := func(at int) { begins[at]++ }
	for _, f := range m.Funcs {
		begin(f.Start)
	}
	for _, l := range m.Tables {
		for _, at := range l {
			begin(at)
		}
	}
	for _, i := range code {
		if leads(i.instr.Kind) {
			begin(i.target())
		}
		if leads(i.instr.Kind) || stops(i.instr.Kind) {
			begin(i.behind())
		}
	}
	places := map[int]int{}
	// By the instructions, not by begins: these are in order, and none stands behind the text's end.
	for _, i := range code {
		if begins[i.at] > 0 {
			places[i.at] = len(places)
		}
	}
	return places
}

// cut code where blocks begin.
func cut(code []item, places map[int]int) [][]item {
	var runs [][]item
	first := 0
	for k := range code {
		end := k + 1
		if end < len(code) {
			if _, ok := places[code[end].at]; !ok {
				continue
			}
		}
		runs = append(runs, code[first:end])
		first = end
	}
	return runs
}

// blockOf instructions: all that does not hang on other blocks.
func blockOf(m api.Image, run []item, funcAt func(at int) int) api.Block {
	b := api.Block{Func: run[0].owner, Start: run[0].at}
	for _, i := range run {
		b.At = append(b.At, i.at)
		b.Lines = append(b.Lines, image.LineAt(m, i.at))
		if leads(i.instr.Kind) {
			continue
		}
		instr := i.instr
		if instr.Kind == api.Call {
			instr.N = funcAt(i.target())
		}
		b.Code = append(b.Code, instr)
	}
	if len(b.Code) == len(run) {
		b.Lines = append(b.Lines, b.Lines[len(run)-1])
	}
	return b
}

// goingOn: a block with how it goes on, by its last instruction; next: the place behind its own.
func goingOn(b api.Block, last item, places map[int]int, next int) api.Block {
	kind := last.instr.Kind
	switch {
	case stops(kind):
		b.Ends = api.Stops
	case isBranch(kind):
		b.Ends = api.Chance
		b.Last = api.Instr{Kind: kind, A: last.instr.A, B: last.instr.B}
		b.To = places[last.target()]
		b.Else = next
	case kind == api.Jump:
		b.Ends = api.Jumps
		b.To = places[last.target()]
	default:
		b.Ends = api.Falls
		b.To = next
	}
	return b
}

// placesAt addresses where blocks begin.
func placesAt(l []int, places map[int]int) []int {
	c := make([]int, len(l))
	for k, at := range l {
		c[k] = places[at]
	}
	return c
}
