package image_test

import (
	"bytes"
	"reflect"
	"testing"

	"bolthole/api"
	"bolthole/image"
)

// sampleBytes: those of the sample, as the chapter gives them (P2.3).
func sampleBytes() []byte {
	b := []byte{'b', 'h', '1', 10, 0x01, 0x2c}
	b = append(b, sample().Text...)
	b = append(b, 3,
		4, 'm', 'a', 'i', 'n', 0, 2,
		6, '_', '.', 'z', '0', '9', 'a', 1, 2,
		1, 'g', 0, 40)
	b = append(b, 1)
	b = append(b, 3,
		2, 0, 0, 0x01, 0x2b,
		0,
		3, 0x01, 0x02, 0x01, 0x02, 0, 1)
	b = append(b, 5,
		0, 0, 0, 0, 0, 0, 0, 3,
		255, 255, 255, 255, 255, 255, 255, 255,
		0, 0, 1, 0, 0, 0, 0, 0,
		255, 255, 255, 0, 0, 0, 0, 0,
		0, 0, 0, 0, 0, 0, 0, 0)
	return append(b, 0, 3,
		0, 0, 0, 7,
		0, 3, 0, 0,
		0x01, 0x2b, 0x27, 0x10)
}

// least: the bytes of an image with one function of one byte.
func least() []byte {
	return []byte{'b', 'h', '1', 10, 0, 1, 0, 1, 1, 'f', 0, 1, 0, 0, 0, 0, 0}
}

// unread: Decode tells that error, and an image of nothing.
func unread(t *testing.T, what string, b []byte, want api.Errno) {
	t.Helper()
	if m, e := image.Decode(b); e != want || !reflect.DeepEqual(m, api.Image{}) {
		t.Errorf("%s: Decode of %d bytes = %v, %v, want none, %v", what, len(b), m, e, want)
	}
}

// TestEncode: the bytes of an image (P2.3).
func TestEncode(t *testing.T) {
	if b, e := image.Encode(sample()); e != api.OK || !bytes.Equal(b, sampleBytes()) {
		t.Errorf("Encode = %v, %v, want %v", b, e, sampleBytes())
	}
	one := api.Image{Text: []byte{0}, Funcs: []api.Func{{Name: "f", Size: 1}}}
	if b, e := image.Encode(one); e != api.OK || !bytes.Equal(b, least()) {
		t.Errorf("Encode = %v, %v, want %v", b, e, least())
	}
}

// TestDecode: the image of bytes, at the limits as well, is the one that was encoded (P2.4).
func TestDecode(t *testing.T) {
	if m, e := image.Decode(sampleBytes()); e != api.OK || !reflect.DeepEqual(m, sample()) {
		t.Errorf("Decode = %v, %v, want %v", m, e, sample())
	}
	b, e := image.Encode(greatest())
	if e != api.OK {
		t.Fatalf("Encode of the greatest = %v", e)
	}
	if m, e := image.Decode(b); e != api.OK || !reflect.DeepEqual(m, greatest()) {
		t.Errorf("Decode of the greatest = %v", e)
	}
}

// TestDecodeSize: more than MaxImage bytes, ahead of all else (P2.4).
func TestDecodeSize(t *testing.T) {
	long := append(least(), make([]byte, api.MaxImage)...)
	unread(t, "as many as may be", long[:api.MaxImage], api.ErrForm)
	unread(t, "one more", long[:api.MaxImage+1], api.ErrSize)
	unread(t, "one more, of nothing", make([]byte, api.MaxImage+1), api.ErrSize)
}

// TestDecodeMark: the first four bytes, one by one (P2.4).
func TestDecodeMark(t *testing.T) {
	unread(t, "no bytes", nil, api.ErrShort)
	for k := range 4 {
		unread(t, "a beginning", least()[:k], api.ErrShort)
		wrong := least()
		wrong[k]++
		unread(t, "another byte", wrong, api.ErrForm)
		unread(t, "another byte, the last one", wrong[:k+1], api.ErrForm)
		unread(t, "ahead of another byte", wrong[:k], api.ErrShort)
	}
	unread(t, "the mark alone", least()[:4], api.ErrShort)
}

// TestDecodeShort: bytes that end too early, wherever that is, and bytes that are left (P2.4).
func TestDecodeShort(t *testing.T) {
	b := sampleBytes()
	for n := range b {
		unread(t, "a beginning", b[:n], api.ErrShort)
	}
	unread(t, "one is left", append(b, 0), api.ErrForm)
	unread(t, "more are left", append(b, b...), api.ErrForm)
	unread(t, "the longest counts", []byte{'b', 'h', '1', 10, 255, 255}, api.ErrShort)
	unread(t, "the most Lines", append(least()[:15], 255, 255), api.ErrShort)
}

// TestDecodeOrder: ErrShort and ErrForm are told ahead of what Check refuses (P2.4).
func TestDecodeOrder(t *testing.T) {
	wrong := least()
	wrong[12] = 1 // there is no function 1
	unread(t, "no such Entry", wrong, api.ErrNone)
	unread(t, "no such Entry, and short", wrong[:len(wrong)-1], api.ErrShort)
	unread(t, "no such Entry, and bytes left", append(wrong, 0), api.ErrForm)
}

// TestDecodeRefused: what Check refuses, of what bytes can say (P2.4).
func TestDecodeRefused(t *testing.T) {
	head := []byte{'b', 'h', '1', 10}
	zeros := func(n int) []byte { return make([]byte, n) }
	join := func(parts ...[]byte) []byte { return bytes.Join(parts, nil) }
	one := least()[:12] // with its functions
	lined := func(l ...byte) []byte { return join(one, zeros(3), l) }
	for _, c := range []struct {
		what string
		b    []byte
		want api.Errno
	}{
		{"Text", join(head, []byte{0x1f, 0x41}, zeros(8001), []byte{1, 1, 'f', 0x1f, 0x41}, zeros(5)), api.ErrSize},
		{"Funcs", join(head, []byte{0, 41}, zeros(41), []byte{41}, bytes.Repeat([]byte{1, 'f', 0, 1}, 41), zeros(5)), api.ErrSize},
		{"255 Funcs", join(head, []byte{0, 1}, zeros(1), []byte{255}, bytes.Repeat([]byte{1, 'f', 255, 255}, 255), zeros(5)), api.ErrSize},
		{"no Funcs", join(head, zeros(8)), api.ErrNone},
		{"a long name", join(head, []byte{0, 1, 0, 1, 17}, bytes.Repeat([]byte{'f'}, 17), []byte{0, 1}, zeros(5)), api.ErrForm},
		{"no name", join(head, []byte{0, 1, 0, 1, 0, 0, 1}, zeros(5)), api.ErrForm},
		{"a name twice", join(head, []byte{0, 2, 0, 0, 2, 1, 'f', 0, 1, 1, 'f', 0, 1}, zeros(5)), api.ErrTwice},
		{"no bytes", join(head, []byte{0, 1, 0, 1, 1, 'f', 0, 0}, zeros(5)), api.ErrOrder},
		{"too many bytes", join(head, []byte{0, 1, 0, 1, 1, 'f', 0, 2}, zeros(5)), api.ErrOrder},
		{"too few bytes", join(head, []byte{0, 2, 0, 0, 1, 1, 'f', 0, 1}, zeros(5)), api.ErrOrder},
		{"Entry", join(one, []byte{255}, zeros(4)), api.ErrNone},
		{"Tables", join(one, []byte{0, 21}, zeros(21), zeros(3)), api.ErrSize},
		{"Data", join(one, []byte{0, 0, 65}, zeros(65*8), zeros(2)), api.ErrSize},
		{"a table", join(one, []byte{0, 1, 21}, zeros(42), zeros(3)), api.ErrSize},
		{"an address", join(one, []byte{0, 1, 1, 0, 1}, zeros(3)), api.ErrRange},
		{"a number above", join(one, []byte{0, 0, 1, 0, 0, 1, 0, 0, 0, 0, 1}, zeros(2)), api.ErrRange},
		{"a number below", join(one, []byte{0, 0, 1, 255, 255, 254, 255, 255, 255, 255, 255}, zeros(2)), api.ErrRange},
		{"the least number", join(one, []byte{0, 0, 1, 128}, zeros(7), zeros(2)), api.ErrRange},
		{"Lines", lined(append([]byte{0x0f, 0xa1}, zeros(4*4001)...)...), api.ErrSize},
		{"a line", lined(0, 1, 0, 0, 0x27, 0x11), api.ErrRange},
		{"a line's At", lined(0, 1, 0, 1, 0, 0), api.ErrOrder},
		{"Lines at one", lined(0, 2, 0, 0, 0, 0, 0, 0, 0, 0), api.ErrOrder},
	} {
		unread(t, c.what, c.b, c.want)
	}
}

// TestOneToOne: bytes that are decoded are those of their image, and of no other (P2.3, P2.4).
func TestOneToOne(t *testing.T) {
	b := sampleBytes()
	decoded := 0
	for k := range b {
		for _, by := range []byte{0, 1, 2, 127, 128, 255} {
			changed := append([]byte{}, b...)
			changed[k] += by
			m, e := image.Decode(changed)
			if e != api.OK {
				continue
			}
			decoded++
			if again, e := image.Encode(m); e != api.OK || !bytes.Equal(again, changed) {
				t.Errorf("byte %d, %d more: Encode = %v, %v, want %v", k, by, again, e, changed)
			}
			if by != 0 && same(m, sample()) {
				t.Errorf("byte %d, %d more: the same image", k, by)
			}
		}
	}
	if decoded < 6*300 {
		t.Errorf("only %d were decoded", decoded)
	}
}
