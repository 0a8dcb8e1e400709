package emit

import (
	"testing"

	"bolthole/api"
)

// great: a program of one block, of so many nops; more than one that can be followed may have.
func great(size int) (api.Image, api.Flow, []api.Part) {
	b := api.Block{Ends: api.Stops}
	for at := range size {
		b.Code = append(b.Code, api.Instr{Kind: api.Nop})
		b.At, b.Lines = append(b.At, at), append(b.Lines, 0)
	}
	b.Lines = append(b.Lines, 0)
	m := api.Image{Funcs: []api.Func{{Name: "f", Size: size}}, Data: []int{4}}
	return m, api.Flow{Blocks: []api.Block{b}, Firsts: []int{0}}, []api.Part{{Blocks: []int{0}}}
}

// P7.3: more than MaxText bytes are refused. (No program that Recover takes grows so far: at most to some 6000 bytes.)
func TestTooManyBytes(t *testing.T) {
	for _, size := range []int{1, api.MaxFirst, api.MaxText - 1, api.MaxText, api.MaxText + 1, api.MaxText + 2, 40000} {
		x, p, e := assemble(great(size))
		if size <= api.MaxText {
			if e != api.OK || len(x.Text) != size || len(p) != size || x.Funcs[0].Size != size {
				t.Errorf("%d bytes: %d bytes, %d pairs, %v", size, len(x.Text), len(p), e)
			}
		} else if e != api.ErrSize || len(x.Text)+len(x.Funcs)+len(x.Data)+len(p) > 0 {
			t.Errorf("%d bytes: %d bytes, %d pairs, %v, want nothing, %v", size, len(x.Text), len(p), e, api.ErrSize)
		}
	}
}

// P7.3: what is Long counts: bytes that are not too many as long as nothing is Long.
func TestTooManyBytesByLong(t *testing.T) {
	for _, size := range []int{api.MaxText - 3, api.MaxText - 2} {
		m, f, l := great(size)
		f.Blocks[0].Ends = api.Jumps
		f.Blocks[0].At = append(f.Blocks[0].At, size)
		x, _, e := assemble(m, f, l)
		if size+3 <= api.MaxText && (e != api.OK || len(x.Text) != size+3) || size+3 > api.MaxText && (e != api.ErrSize || len(x.Text) > 0) {
			t.Errorf("%d bytes and a Jump back over them: %d bytes, %v", size, len(x.Text), e)
		}
	}
}
