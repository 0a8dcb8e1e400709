package emit_test

import (
	"fmt"
	"math"
	"reflect"
	"slices"
	"testing"

	"bolthole/api"
	"bolthole/emit"
	"bolthole/flow"
	"bolthole/isa"
)

func bare(kind int) api.Instr { return api.Instr{Kind: kind} }

func li(d, n int) api.Instr { return api.Instr{Kind: api.Li, D: d, N: n} }

func addi(d, a, n int) api.Instr { return api.Instr{Kind: api.Addi, D: d, A: a, N: n} }

func out(a int) api.Instr { return api.Instr{Kind: api.Out, A: a} }

func branch(kind, a, b, n int) api.Instr { return api.Instr{Kind: kind, A: a, B: b, N: n} }

func jump(n int) api.Instr { return api.Instr{Kind: api.Jump, N: n} }

func call(n int) api.Instr { return api.Instr{Kind: api.Call, N: n} }

func table(a, n int) api.Instr { return api.Instr{Kind: api.Table, A: a, N: n} }

func long(i api.Instr) api.Instr {
	i.Long = true
	return i
}

var (
	halt = bare(api.Halt)
	trap = bare(api.Trap)
	ret  = bare(api.Ret)
	nop  = bare(api.Nop)
)

// list of instructions, and of lists of such, as one list.
func list(l ...any) []api.Instr {
	var all []api.Instr
	for _, x := range l {
		switch x := x.(type) {
		case api.Instr:
			all = append(all, x)
		case []api.Instr:
			all = append(all, x...)
		}
	}
	return all
}

func nops(n int) []api.Instr { return slices.Repeat([]api.Instr{nop}, n) }

// code: the bytes of instructions.
func code(l ...api.Instr) []byte {
	var text []byte
	for _, i := range l {
		b, e := isa.Encode(i)
		if e != api.OK {
			panic(fmt.Sprintf("%+v may not be: %v", i, e))
		}
		text = append(text, b...)
	}
	return text
}

// texts as a program, a function each: fa, fb, ..
func texts(parts ...[]byte) api.Image {
	var m api.Image
	for k, b := range parts {
		name := "f" + string(rune('a'+k))
		m.Funcs = append(m.Funcs, api.Func{Name: name, Start: len(m.Text), Size: len(b)})
		m.Text = append(m.Text, b...)
	}
	return m
}

// program of one function.
func program(l ...api.Instr) api.Image { return texts(code(l...)) }

func withTables(m api.Image, tables ...[]int) api.Image {
	m.Tables = tables
	return m
}

func withLines(m api.Image, lines ...api.Line) api.Image {
	m.Lines = lines
	return m
}

func part(function int, blocks ...int) api.Part { return api.Part{Func: function, Blocks: blocks} }

// only: the parts of a program of one function.
func only(blocks ...int) []api.Part { return []api.Part{part(0, blocks...)} }

// asTheyStood: the parts of a program, all blocks in their order.
func asTheyStood(t *testing.T, m api.Image) []api.Part {
	t.Helper()
	f, e := flow.Recover(m)
	if e != api.OK {
		t.Fatalf("Recover(%v) = %v", m, e)
	}
	l := make([]api.Part, len(f.Firsts))
	for n, b := range f.Blocks {
		l[b.Func].Func = b.Func
		l[b.Func].Blocks = append(l[b.Func].Blocks, n)
	}
	return l
}

// plain: a list whose being nil or not, without elements, is told by nothing any more.
func plain[T any](l []T) []T { return append([]T{}, l...) }

func plainImage(m api.Image) api.Image {
	c := api.Image{Text: plain(m.Text), Funcs: plain(m.Funcs), Tables: plain(m.Tables), Data: plain(m.Data), Lines: plain(m.Lines), Entry: m.Entry}
	for k, l := range c.Tables {
		c.Tables[k] = plain(l)
	}
	return c
}

func same(a, b api.Image) bool { return reflect.DeepEqual(plainImage(a), plainImage(b)) }

// pairs of numbers: an old address, the new one, an old one, ..
func pairs(l ...int) []api.Pair {
	var p []api.Pair
	for k := 0; k < len(l); k += 2 {
		p = append(p, api.Pair{Old: l[k], New: l[k+1]})
	}
	return p
}

// emitted: the program, and the pairs, of one that is not refused.
func emitted(t *testing.T, what string, m api.Image, l []api.Part) (api.Image, []api.Pair) {
	t.Helper()
	x, p, e := emit.Emit(m, l)
	if e != api.OK {
		t.Fatalf("%s: Emit(%v, %v) = %v, want OK", what, m, l, e)
	}
	return x, p
}

// emits: the program in that order, and the pairs, are these.
func emits(t *testing.T, what string, m api.Image, l []api.Part, want api.Image, moved []api.Pair) {
	t.Helper()
	x, p := emitted(t, what, m, l)
	if !same(x, want) {
		t.Errorf("%s: Emit =\n%v, want\n%v", what, x, want)
	}
	if !slices.Equal(p, moved) {
		t.Errorf("%s: the pairs are %v, want %v", what, p, moved)
	}
}

// refused: Emit tells that error, and nothing else.
func refused(t *testing.T, what string, m api.Image, l []api.Part, want api.Errno) {
	t.Helper()
	if x, p, e := emit.Emit(m, l); e != want || !same(x, api.Image{}) || len(p) != 0 {
		t.Errorf("%s: Emit = %v, %v, %v, want nothing, %v", what, x, p, e, want)
	}
}

// P7.1: what Recover refuses is refused so, whether parts fit, or what would be its parts do not.
func TestRefusedProgram(t *testing.T) {
	entry := program(halt)
	entry.Entry = 1
	data := program(halt)
	data.Data = []int{api.MaxInt + 1}
	tooMany := texts(make([]byte, api.MaxFirst+1))
	for _, c := range []struct {
		m    api.Image
		want api.Errno
	}{
		{api.Image{}, api.ErrNone},
		{entry, api.ErrNone},
		{data, api.ErrRange},
		{tooMany, api.ErrSize},
		{texts(make([]byte, api.MaxText+1)), api.ErrSize},
		{api.Image{Text: []byte{0}, Funcs: []api.Func{{Name: "F", Size: 1}}}, api.ErrForm},
		{api.Image{Text: []byte{0, 0}, Funcs: []api.Func{{Name: "f", Size: 1}, {Name: "f", Start: 1, Size: 1}}}, api.ErrTwice},
		{api.Image{Text: []byte{0, 0}, Funcs: []api.Func{{Name: "f", Size: 1}}}, api.ErrOrder},
		{withTables(program(halt), []int{1}), api.ErrRange},
		{withTables(program(out(1), halt), []int{1}), api.ErrCode},
		{withLines(program(halt), api.Line{N: api.MaxLine + 1}), api.ErrRange},
		{withLines(program(halt), api.Line{At: 1}), api.ErrOrder},
		{texts([]byte{0x70, 0}), api.ErrCode},
		{program(nop), api.ErrCode},
		{program(call(1), halt), api.ErrCode},
		{program(jump(1), halt), api.ErrCode},
		{texts(code(jump(2)), code(halt)), api.ErrCode},
		{withTables(texts(code(table(1, 0)), code(halt)), []int{3}), api.ErrCode},
	} {
		if _, e := flow.Recover(c.m); e != c.want {
			t.Fatalf("Recover(%v) = %v, want %v", c.m.Funcs, e, c.want)
		}
		for _, l := range [][]api.Part{nil, {}, only(), only(0), only(1, 0), {part(0, 0), part(1, 1)}, {part(-1, math.MinInt)}} {
			refused(t, fmt.Sprint(c.m.Funcs, l), c.m, l, c.want)
		}
	}
}

// P7.1: one reason at a time for which parts do not fit.
func TestRefusedParts(t *testing.T) {
	m := texts(code(halt, ret, trap), code(halt, ret), code(halt)) // blocks 0 to 2, 3 and 4, 5
	first, second, third := part(0, 0, 2, 1), part(1, 3, 4), part(2, 5)
	fit := [][]api.Part{{first, second, third}, {third, first, second}, {second, first, third}, {third, second, part(0, 0, 1, 2)}}
	for _, l := range fit {
		emitted(t, "parts that fit", m, l)
	}
	for what, l := range map[string][]api.Part{
		"no parts":                             nil,
		"a function has none":                  {first, second},
		"the first function has none":          {second, third},
		"a function has two":                   {first, second, third, second},
		"a function has two, and another none": {first, second, second},
		"a function's blocks are shared out":   {part(0, 0), part(0, 2, 1), second, third},
		"a part more, of no function":          {first, second, third, part(3)},
		"a part more, of nothing":              {first, second, third, {}},
		"a part more, of a function":           {first, second, third, part(2)},
		"a part more ahead":                    {part(2), first, second, third},
		"a function below 0":                   {first, second, part(-1, 5)},
		"a function that is not there":         {first, second, part(3, 5)},
		"a function far below":                 {first, second, part(math.MinInt, 5)},
		"a function far above":                 {first, second, part(math.MaxInt, 5)},
		"functions mixed up":                   {part(1, 0, 2, 1), part(0, 3, 4), third},
		"a block is not there":                 {part(0, 0, 2), second, third},
		"no blocks":                            {first, second, part(2)},
		"the first block is not there":         {part(0, 2, 1), second, third},
		"a block is there twice":               {part(0, 0, 2, 1, 2), second, third},
		"a block is there for another":         {part(0, 0, 2, 2), second, third},
		"the first block is there twice":       {part(0, 0, 2, 1, 0), second, third},
		"the first block is the last one":      {part(0, 2, 1, 0), second, third},
		"the first block is the second one":    {first, part(1, 4, 3), third},
		"a block of another function":          {part(0, 0, 2, 1, 4), part(1, 3), third},
		"a block of another function, too":     {part(0, 0, 2, 1, 4), second, third},
		"two blocks for each other":            {part(0, 0, 2, 4), part(1, 3, 1), third},
		"a block below 0":                      {part(0, 0, -1, 1), second, third},
		"a block above all":                    {part(0, 0, 6, 1), second, third},
		"a block more, above all":              {first, second, part(2, 5, 6)},
		"a block far below":                    {part(0, 0, math.MinInt, 1), second, third},
		"a block far above":                    {part(0, 0, math.MaxInt, 1), second, third},
		"blocks counted in their function":     {first, part(1, 0, 1), part(2, 0)},
		"very many parts":                      slices.Repeat(fit[0], 10000),
		"very many blocks":                     {part(0, slices.Repeat([]int{0, 1, 2}, 100000)...), second, third},
	} {
		refused(t, what, m, l, api.ErrOrder)
	}
}

// slowFit: what the chapter says of parts that fit, function by function.
func slowFit(f api.Flow, l []api.Part) bool {
	for k, first := range f.Firsts {
		var all []int
		for n, b := range f.Blocks {
			if b.Func == k {
				all = append(all, n)
			}
		}
		of := slices.DeleteFunc(slices.Clone(l), func(p api.Part) bool { return p.Func != k })
		if len(of) != 1 || !slices.Equal(slices.Sorted(slices.Values(of[0].Blocks)), all) || of[0].Blocks[0] != first {
			return false
		}
	}
	return len(l) == len(f.Firsts)
}

// P7.1: all small lists of parts, those that fit and those that do not.
func TestAllParts(t *testing.T) {
	m := texts(code(halt, halt), code(halt))
	f, _ := flow.Recover(m)
	blocks := [][]int{{}}
	for begin, length := 0, 0; length < 3; length++ {
		end := len(blocks)
		for _, l := range blocks[begin:end] {
			for n := -1; n <= 3; n++ {
				blocks = append(blocks, append(slices.Clone(l), n))
			}
		}
		begin = end
	}
	var all []api.Part
	for function := -1; function <= 2; function++ {
		for _, l := range blocks {
			all = append(all, part(function, l...))
		}
	}
	fit := 0
	try := func(l ...api.Part) {
		want := api.ErrOrder
		if slowFit(f, l) {
			want = api.OK
			fit++
		}
		if _, _, e := emit.Emit(m, l); e != want {
			t.Errorf("Emit of %v = %v, want %v", l, e, want)
		}
	}
	for _, a := range all {
		try(a)
		for _, b := range all {
			// Most of the pairs are of two parts each of which is wrong alone.
			if len(a.Blocks) < 3 || len(b.Blocks) < 2 {
				try(a, b)
			}
		}
	}
	if fit != 2 {
		t.Errorf("%d of them fit, want 2", fit)
	}
}
