package bolt_test

import (
	"bytes"
	"testing"

	"bolthole/api"
	"bolthole/bolt"
	"bolthole/emit"
)

// What README.md says of this package.
func TestReadme(t *testing.T) {
	m := api.Image{
		Text:  []byte{0x10, 1, 2, 0, 0x50, 0x10, 5, 0x60, 3, 0, 0x41, 1, 0x11, 0x11, 0xff, 0x60, 0xf5},
		Funcs: []api.Func{{Name: "count", Size: 17}},
	}
	s := "7 10 2\n15 4 2\n4 7 2\n"
	f := flowOf(t, m)
	hasEdges(t, "a loop", f, s, edge(1, 2, 2), edge(2, 4, 2), edge(4, 1, 2))
	hasEdges(t, "no end", f, "7 10 2")
	x, _, _ := emit.Emit(m, []api.Part{{Blocks: []int{0, 1, 2, 4, 3}}})
	if b, e := bolt.Optimize(raw(m), s); e != api.OK || !bytes.Equal(b, raw(x)) {
		t.Errorf("Optimize = %v, %v, want %v", b, e, raw(x))
	}
	refused(t, "no bytes", nil, api.ErrShort)
}
