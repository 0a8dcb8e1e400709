package emit_test

import (
	"fmt"
	"reflect"
	"slices"
	"testing"

	"bolthole/api"
	"bolthole/emit"
	"bolthole/image"
)

// P7.4: functions have their names, and stand in the order of the parts; a Call leads to the same function.
func TestFunctions(t *testing.T) {
	m := texts(code(call(4), halt), code(call(0), jump(2), ret), code(call(-10), call(-9), call(-6), ret)) // 0, 3; 4, 7, 9; 10, 13, 16, 19
	first, second, third := part(0, 0), part(1, 1, 2), part(2, 3)
	want := texts(code(call(4), halt), code(call(0), ret), code(call(-8), call(-7), call(-6), ret))
	emits(t, "as they stood", m, []api.Part{first, second, third}, want, pairs(0, 0, 3, 3, 4, 4, 9, 7, 10, 8, 13, 11, 16, 14, 19, 17))

	want = texts(code(call(14), call(7), call(-6), ret), code(call(0), ret), code(call(-4), halt))
	want.Funcs[0].Name, want.Funcs[2].Name, want.Entry = "fc", "fa", 2
	emits(t, "turned round", m, []api.Part{third, second, first}, want, pairs(0, 14, 3, 17, 4, 10, 9, 13, 10, 0, 13, 3, 16, 6, 19, 9))

	want = texts(code(call(0), ret), code(call(10), call(-7), call(-6), ret), code(call(-14), halt))
	want.Funcs[0].Name, want.Funcs[1].Name, want.Funcs[2].Name, want.Entry = "fb", "fc", "fa", 2
	emits(t, "shifted", m, []api.Part{second, third, first}, want, pairs(0, 14, 3, 17, 4, 0, 9, 3, 10, 4, 13, 7, 16, 10, 19, 13))
}

// P7.4: Entry is the same function, whichever it was.
func TestEntry(t *testing.T) {
	m := texts(code(halt), code(trap), code(ret))
	for _, order := range [][]int{{0, 1, 2}, {0, 2, 1}, {1, 0, 2}, {1, 2, 0}, {2, 0, 1}, {2, 1, 0}} {
		for m.Entry = range 3 {
			var l []api.Part
			for _, n := range order {
				l = append(l, part(n, n))
			}
			x, _ := emitted(t, fmt.Sprint(order), m, l)
			if got, want := x.Funcs[x.Entry].Name, m.Funcs[m.Entry].Name; got != want {
				t.Errorf("%v: Entry is %s, want %s", order, got, want)
			}
			if string(x.Text) != string([]byte{m.Text[order[0]], m.Text[order[1]], m.Text[order[2]]}) {
				t.Errorf("%v: the text is %v", order, x.Text)
			}
		}
	}
}

// P7.4: an address of a Table leads to the same block, in whichever function that is; a Table without any stays.
func TestTables(t *testing.T) {
	m := texts(code(table(1, 1), halt, trap), code(out(1), ret, nop, halt)) // 0, 3, 4; 5, 7, 8, 9
	m.Tables = [][]int{{5, 0, 8, 8, 9}, {3, 0, 4}, {}, {9}}
	want := texts(code(out(1), ret, halt, nop, jump(-2)), code(table(1, 1), trap, halt))
	want.Tables = [][]int{{0, 7, 4, 4, 3}, {11, 7, 10}, {}, {3}}
	want.Funcs[0].Name, want.Funcs[1].Name, want.Entry = "fb", "fa", 1
	emits(t, "in another order", m, []api.Part{part(1, 3, 5, 4), part(0, 0, 2, 1)}, want, pairs(0, 7, 3, 11, 4, 10, 5, 0, 7, 2, 8, 4, 9, 3))
	full := program(halt)
	for range api.MaxTables {
		full.Tables = append(full.Tables, make([]int, api.MaxTable))
	}
	emits(t, "as many as may be", full, only(0), full, pairs(0, 0))
	m = program(table(0, 7), halt)
	emits(t, "no such Table", m, only(0, 1), m, pairs(0, 0, 3, 3))
}

// P7.4: the Data are the same.
func TestData(t *testing.T) {
	m := program(out(1), jump(2), halt)
	for _, m.Data = range [][]int{nil, {}, {0}, {3, -1, 4}, {api.MaxInt, -api.MaxInt}, slices.Repeat([]int{7}, api.MaxData)} {
		want := program(out(1), halt)
		want.Data = m.Data
		emits(t, fmt.Sprint(m.Data), m, only(0, 1), want, pairs(0, 0, 4, 2))
	}
}

// P7.4: there is a Line for each instruction whose line is another one than that of the instruction ahead, of whichever block or function; of the first one: than 0.
func TestLines(t *testing.T) {
	line := func(at, n int) api.Line { return api.Line{At: at, N: n} }
	m := texts(code(nop, nop, halt), code(nop, ret), code(trap)) // 0, 1, 2; 3, 4; 5
	ordered, turned := []api.Part{part(0, 0), part(1, 1), part(2, 2)}, []api.Part{part(2, 2), part(1, 1), part(0, 0)}
	for _, c := range []struct {
		what                   string
		given, ordered, turned []api.Line
	}{
		{"none", nil, nil, nil},
		{"only 0", []api.Line{line(0, 0)}, nil, nil},
		{"0 thrice", []api.Line{line(0, 0), line(2, 0), line(5, 0)}, nil, nil},
		{"one for all", []api.Line{line(0, 3)}, []api.Line{line(0, 3)}, []api.Line{line(0, 3)}},
		{"the same for each", []api.Line{line(0, 3), line(1, 3), line(2, 3), line(3, 3), line(4, 3), line(5, 3)}, []api.Line{line(0, 3)}, []api.Line{line(0, 3)}},
		{"the first one has none", []api.Line{line(1, 5)}, []api.Line{line(1, 5)}, []api.Line{line(0, 5), line(3, 0), line(4, 5)}},
		{"the first one has 0", []api.Line{line(0, 0), line(3, 5)}, []api.Line{line(3, 5)}, []api.Line{line(0, 5), line(3, 0)}},
		{"back to 0", []api.Line{line(0, 9), line(3, 0)}, []api.Line{line(0, 9), line(3, 0)}, []api.Line{line(3, 9)}},
		{"one a function", []api.Line{line(0, 1), line(3, 2), line(5, 1)}, []api.Line{line(0, 1), line(3, 2), line(5, 1)}, []api.Line{line(0, 1), line(1, 2), line(3, 1)}},
		{"one for two that come together", []api.Line{line(0, 1), line(3, 2), line(4, 1), line(5, 2)}, []api.Line{line(0, 1), line(3, 2), line(4, 1), line(5, 2)}, []api.Line{line(0, 2), line(2, 1)}},
		{"each another one", []api.Line{line(0, 1), line(1, 2), line(2, 3), line(3, 4), line(4, 5), line(5, api.MaxLine)},
			[]api.Line{line(0, 1), line(1, 2), line(2, 3), line(3, 4), line(4, 5), line(5, api.MaxLine)},
			[]api.Line{line(0, api.MaxLine), line(1, 4), line(2, 5), line(3, 1), line(4, 2), line(5, 3)}},
	} {
		m.Lines = c.given
		if x, _ := emitted(t, c.what, m, ordered); !slices.Equal(x.Lines, c.ordered) {
			t.Errorf("%s: the Lines are %v, want %v", c.what, x.Lines, c.ordered)
		}
		if x, _ := emitted(t, c.what, m, turned); !slices.Equal(x.Lines, c.turned) {
			t.Errorf("%s, turned: the Lines are %v, want %v", c.what, x.Lines, c.turned)
		}
	}
	m = withLines(program(li(1, 2), out(1), halt), line(1, 4), line(4, 5), line(5, 6)) // 0, 4, 6: a Line within an instruction is of the next one
	x, _ := emitted(t, "within instructions", m, only(0))
	if want := []api.Line{line(4, 5), line(6, 6)}; !slices.Equal(x.Lines, want) {
		t.Errorf("within instructions: the Lines are %v, want %v", x.Lines, want)
	}
}

// P7.5: each instruction that is there still has a pair, by the old addresses: branches that are turned round, too; Jumps that are new, and such that are left out, have none.
func TestPairs(t *testing.T) {
	m := program(out(1), branch(api.Beq, 1, 2, 6), nop, jump(3), trap, jump(-9)) // 0, 2; 5, 6; 8; 9: back to 0
	for _, c := range []struct {
		blocks []int
		want   []api.Pair
	}{
		{[]int{0, 1, 2, 3}, pairs(0, 0, 2, 2, 5, 5, 6, 6, 8, 8, 9, 9)},
		{[]int{0, 1, 3, 2}, pairs(0, 0, 2, 2, 5, 5, 8, 8, 9, 6)},
		{[]int{0, 2, 1, 3}, pairs(0, 0, 2, 2, 5, 6, 8, 5, 9, 7)},
		{[]int{0, 3, 1, 2}, pairs(0, 0, 2, 2, 5, 9, 6, 10, 8, 12, 9, 7)},
		{[]int{0, 3, 2, 1}, pairs(0, 0, 2, 2, 5, 10, 6, 11, 8, 9, 9, 7)},
	} {
		if _, p := emitted(t, fmt.Sprint(c.blocks), m, only(c.blocks...)); !slices.Equal(p, c.want) {
			t.Errorf("%v: the pairs are %v, want %v", c.blocks, p, c.want)
		}
	}
}

// whole: an image, with the spare room of its lists.
func whole(m api.Image) api.Image {
	c := api.Image{
		Text: m.Text[:cap(m.Text)], Funcs: m.Funcs[:cap(m.Funcs)], Tables: plain(m.Tables[:cap(m.Tables)]),
		Data: m.Data[:cap(m.Data)], Lines: m.Lines[:cap(m.Lines)], Entry: m.Entry,
	}
	for k, l := range c.Tables {
		c.Tables[k] = l[:cap(l)]
	}
	return image.Copy(c)
}

// roomy: a list with spare room in which something stands.
func roomy[T any](spare T, l ...T) []T {
	return append(append(make([]T, 0, len(l)+2), l...), spare, spare)[:len(l)]
}

// What is handed in is not changed, its spare room neither, and an answer shares memory with nothing, itself neither.
func TestMemoryOfItsOwn(t *testing.T) {
	given := func() (api.Image, []api.Part) {
		m := texts(code(out(1), branch(api.Beq, 1, 0, 8), call(8), jump(-8), table(0, 0)), code(nop, ret)) // 0, 2; 5, 8; 10; 13, 14
		m.Tables = roomy([]int{4}, roomy(77, 0, 10), nil, roomy(77, 13))
		m.Data = roomy(77, 1, 2)
		m.Lines = roomy(api.Line{N: 77}, api.Line{At: 0, N: 4}, api.Line{At: 3, N: 6})
		m.Text, m.Funcs = roomy(77, m.Text...), roomy(api.Func{Name: "spare"}, m.Funcs...)
		return m, roomy(part(7), part(1, roomy(77, 3)...), part(0, roomy(77, 0, 2, 1)...))
	}
	m, l := given()
	before, _ := given()
	first, moved := emitted(t, "first", m, l)
	want, wantMoved := emitted(t, "second", m, l)
	unchanged := func(when string) {
		t.Helper()
		_, parts := given()
		for k, p := range parts {
			parts[k].Blocks = p.Blocks[:cap(p.Blocks)]
		}
		now := plain(l[:cap(l)])
		for k := range parts {
			now[k].Blocks = now[k].Blocks[:cap(now[k].Blocks)]
		}
		if !reflect.DeepEqual(whole(m), whole(before)) || !reflect.DeepEqual(now[:len(parts)], parts) || now[2].Func != 7 {
			t.Errorf("%s: what was given is %v, %v", when, whole(m), now)
		}
	}
	unchanged("by the call")
	answer := func() string { return fmt.Sprint(first, moved) }
	spoil(t, &first.Text, answer, 77)
	spoil(t, &first.Funcs, answer, api.Func{Name: "spoilt"})
	for k := range first.Tables {
		spoil(t, &first.Tables[k], answer, 77)
	}
	spoil(t, &first.Tables, answer, []int{77})
	spoil(t, &first.Data, answer, 77)
	spoil(t, &first.Lines, answer, api.Line{N: 77})
	spoil(t, &moved, answer, api.Pair{Old: 77})
	unchanged("by the answer")
	emits(t, "once more", m, l, want, wantMoved)
}

// spoil the memory of a list of an answer, spare room too, and put a copy in its place, to see that nothing else of the answer has another value then.
func spoil[T any](t *testing.T, l *[]T, answer func() string, value T) {
	t.Helper()
	was := answer()
	room := (*l)[:cap(*l)]
	*l = plain(*l)
	for k := range room {
		room[k] = value
	}
	if now := answer(); now != was {
		t.Errorf("lists share memory: %s, was %s", now, was)
	}
}

// Lists without elements may be nil or not.
func TestEmptyLists(t *testing.T) {
	m := program(halt)
	m.Tables, m.Data, m.Lines = [][]int{}, []int{}, []api.Line{}
	emits(t, "not nil", m, only(0), program(halt), pairs(0, 0))
	if _, _, e := emit.Emit(m, []api.Part{}); e != api.ErrOrder {
		t.Errorf("no parts: Emit = %v, want %v", e, api.ErrOrder)
	}
}
