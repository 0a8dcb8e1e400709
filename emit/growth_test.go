package emit_test

import (
	"slices"
	"testing"

	"bolthole/api"
	"bolthole/flow"
)

// P7.3: a program nearly as great as may be, in which nearly each block needs a new Jump, and all that can be has to be Long: it grows nearly threefold, and is not refused.
func TestGreatestGrowth(t *testing.T) {
	l := nops(api.MaxTables * api.MaxTable)
	m := api.Image{Tables: make([][]int, api.MaxTables)}
	for at := range l {
		m.Tables[at%api.MaxTables] = append(m.Tables[at%api.MaxTables], at)
	}
	end := len(l)
	for end < api.MaxFirst-3-2 {
		// Each branch leads to the one behind it, so that the nop between falls to a beginning.
		l = list(l, branch(api.Beq, 1, 2, 4), nop)
		end += 4
	}
	l = append(l, jump(0))
	m.Text = code(l...)
	m.Funcs = []api.Func{{Name: "f", Size: len(m.Text)}}
	f, e := flow.Recover(m)
	if e != api.OK {
		t.Fatalf("Recover = %v", e)
	}
	// Far from where they stood next, none behind the one that is ahead of it.
	var blocks []int
	for k := range f.Blocks {
		blocks = append(blocks, k)
	}
	slices.SortStableFunc(blocks[1:], func(a, b int) int { return b%3 - a%3 })
	x, p := emitted(t, "great", m, only(blocks...))
	if len(x.Text) < 5500 || len(x.Text) > api.MaxText {
		t.Errorf("%d bytes of %d", len(x.Text), len(m.Text))
	}
	if what := sound(t, m, only(blocks...), x, p); what != "" {
		t.Errorf("%d bytes of %d: %s", len(x.Text), len(m.Text), what)
	}
}
