package image

import "bolthole/api"

// mark: what the bytes of each image begin with.
const mark = "bh1\n"

// Encode an image.
func Encode(m api.Image) ([]byte, api.Errno) {
	if e := Check(m); e != api.OK {
		return nil, e
	}
	b := []byte(mark)
	put := func(width, n int) {
		for place := width - 1; place >= 0; place-- {
			b = append(b, byte(n>>(8*place)))
		}
	}
	put(2, len(m.Text))
	b = append(b, m.Text...)
	put(1, len(m.Funcs))
	for _, f := range m.Funcs {
		put(1, len(f.Name))
		b = append(b, f.Name...)
		put(2, f.Size)
	}
	put(1, m.Entry)
	put(1, len(m.Tables))
	for _, l := range m.Tables {
		put(1, len(l))
		for _, at := range l {
			put(2, at)
		}
	}
	put(1, len(m.Data))
	for _, n := range m.Data {
		put(8, n)
	}
	put(2, len(m.Lines))
	for _, l := range m.Lines {
		put(2, l.At)
		put(2, l.N)
	}
	return b, api.OK
}

// Decode an image.
func Decode(b []byte) (api.Image, api.Errno) {
	if len(b) > api.MaxImage {
		return api.Image{}, api.ErrSize
	}
	if e := checkMark(b); e != api.OK {
		return api.Image{}, e
	}
	r := reader{left: b[len(mark):]}
	m := r.image()
	if r.short {
		return api.Image{}, api.ErrShort
	}
	if len(r.left) > 0 {
		return api.Image{}, api.ErrForm
	}
	if e := Check(m); e != api.OK {
		return api.Image{}, e
	}
	return m, api.OK
}

func checkMark(b []byte) api.Errno {
	for k := range len(mark) {
		if k >= len(b) {
			return api.ErrShort
		}
		if b[k] != mark[k] {
			return api.ErrForm
		}
	}
	return api.OK
}

// reader of bytes: those that are left; short: more were asked for than there were.
type reader struct {
	left  []byte
	short bool
}

// take so many bytes; none, if there are fewer.
func (r *reader) take(n int) []byte {
	if n > len(r.left) {
		r.left = nil
		r.short = true
		return nil
	}
	l := r.left[:n]
	r.left = r.left[n:]
	return l
}

// number that stands in so many bytes; what fills 64 bits may be below 0.
func (r *reader) number(width int) int {
	n := uint64(0)
	for _, b := range r.take(width) {
		n = n<<8 | uint64(b)
	}
	return int(n)
}

// image behind the mark, whether it may be or not.
func (r *reader) image() api.Image {
	var m api.Image
	m.Text = copyOf(r.take(r.number(2)))
	end := 0 // of the function ahead
	m.Funcs = listOf(r.number(1), func() api.Func {
		f := api.Func{Start: end}
		f.Name = string(r.take(r.number(1)))
		f.Size = r.number(2)
		end += f.Size
		return f
	})
	m.Entry = r.number(1)
	m.Tables = listOf(r.number(1), func() []int {
		return listOf(r.number(1), func() int { return r.number(2) })
	})
	m.Data = listOf(r.number(1), func() int { return r.number(8) })
	m.Lines = listOf(r.number(2), func() api.Line {
		at := r.number(2)
		return api.Line{At: at, N: r.number(2)}
	})
	return m
}

// listOf so many things, one behind the other.
func listOf[T any](n int, next func() T) []T {
	l := make([]T, n)
	for k := range l {
		l[k] = next()
	}
	return l
}
