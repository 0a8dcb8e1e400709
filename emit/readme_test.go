package emit_test

import (
	"testing"

	"bolthole/api"
	"bolthole/flow"
	"bolthole/place"
	"bolthole/tally"
)

// What README.md says of this package.
func TestReadme(t *testing.T) {
	m := api.Image{
		Text:  []byte{0x10, 1, 2, 0, 0x50, 0x10, 5, 0x60, 3, 0, 0x41, 1, 0x11, 0x11, 0xff, 0x60, 0xf5},
		Funcs: []api.Func{{Name: "count", Size: 17}},
	}
	want := api.Image{
		Text:  []byte{0x10, 1, 2, 0, 0x50, 0x10, 10, 0x41, 1, 0x11, 0x11, 0xff, 0x60, 0xf8, 0},
		Funcs: []api.Func{{Name: "count", Size: 15}},
	}
	emits(t, "a loop", m, only(0, 1, 2, 4, 3), want, pairs(0, 0, 4, 4, 9, 14, 10, 7, 12, 9, 15, 12))
	refused(t, "not all blocks", m, only(0, 1, 2, 4), api.ErrOrder)
}

// The document's example of the whole: that order is the one which a tally of the loop's run gives.
func TestLoopByTally(t *testing.T) {
	m := program(li(1, 2), branch(api.Beq, 1, 0, 5), jump(3), halt, out(1), addi(1, 1, -1), jump(-11))
	f, _ := flow.Recover(m)
	l, _ := tally.Read("0 4 1\n4 7 2\n7 10 2\n15 4 2\n4 9 1\n")
	l, _ = tally.Map(f, l)
	parts, e := place.Order(f, l)
	if e != api.OK || len(parts) != 1 {
		t.Fatalf("Order = %v, %v", parts, e)
	}
	reads(t, "a loop", m, parts, li(1, 2), branch(api.Beq, 1, 0, 10), out(1), addi(1, 1, -1), jump(-8), halt)
}
