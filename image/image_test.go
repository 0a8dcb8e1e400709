package image_test

import (
	"math"
	"reflect"
	"strconv"
	"strings"
	"testing"

	"bolthole/api"
	"bolthole/image"
)

// sample: an image that has some of each, with numbers that need all of their bytes.
func sample() api.Image {
	text := make([]byte, 300)
	for k := range text {
		text[k] = byte(k * 7)
	}
	return api.Image{
		Text:   text,
		Funcs:  []api.Func{{Name: "main", Start: 0, Size: 2}, {Name: "_.z09a", Start: 2, Size: 258}, {Name: "g", Start: 260, Size: 40}},
		Tables: [][]int{{0, 299}, {}, {258, 258, 1}},
		Data:   []int{3, -1, api.MaxInt, -api.MaxInt, 0},
		Lines:  []api.Line{{At: 0, N: 7}, {At: 3, N: 0}, {At: 299, N: api.MaxLine}},
		Entry:  1,
	}
}

// greatest: an image that is at each limit at once.
func greatest() api.Image {
	m := api.Image{Text: make([]byte, api.MaxText), Entry: api.MaxFuncs - 1}
	for k := range api.MaxFuncs {
		name := strings.Repeat("f", api.MaxName-2) + string(rune('a'+k/10)) + string(rune('0'+k%10))
		m.Funcs = append(m.Funcs, api.Func{Name: name, Start: 200 * k, Size: 200})
	}
	for range api.MaxTables {
		table := make([]int, api.MaxTable)
		table[3] = api.MaxText - 1
		m.Tables = append(m.Tables, table)
	}
	for k := range api.MaxData {
		m.Data = append(m.Data, []int{api.MaxInt, -api.MaxInt}[k%2])
	}
	for k := range api.MaxLines {
		m.Lines = append(m.Lines, api.Line{At: 2*k + 1, N: []int{0, api.MaxLine}[k%2]})
	}
	return m
}

// same: whether two images are, a list without elements being nil or not.
func same(a, b api.Image) bool {
	return reflect.DeepEqual(image.Copy(a), image.Copy(b))
}

// with a change made to the sample.
func with(change func(m *api.Image)) api.Image {
	m := sample()
	change(&m)
	return m
}

// refused: Check and Encode tell the same error, and no bytes.
func refused(t *testing.T, what string, m api.Image, want api.Errno) {
	t.Helper()
	if e := image.Check(m); e != want {
		t.Errorf("%s: Check = %v, want %v", what, e, want)
	}
	if b, e := image.Encode(m); len(b) != 0 || e != want {
		t.Errorf("%s: Encode = %d bytes, %v, want none, %v", what, len(b), e, want)
	}
}

// taken: Check has nothing against it.
func taken(t *testing.T, what string, m api.Image) {
	t.Helper()
	if e := image.Check(m); e != api.OK {
		t.Errorf("%s: Check = %v, want OK", what, e)
	}
}

// fault: a change that makes an image one that may not be, and the error for that.
type fault struct {
	what   string
	want   api.Errno
	change func(m *api.Image)
}

// faults in the order in which the chapter names them; any two of them can be made in one image.
var faults = []fault{
	{"too much Text", api.ErrSize, func(m *api.Image) { m.Text = append(m.Text, make([]byte, api.MaxText)...) }},
	{"too many Funcs", api.ErrSize, func(m *api.Image) {
		for len(m.Funcs) <= api.MaxFuncs {
			m.Funcs = append(m.Funcs, api.Func{Name: "h", Start: 300, Size: 1})
		}
	}},
	{"a wrong name", api.ErrForm, func(m *api.Image) { m.Funcs[0].Name = "F" }},
	{"a name twice", api.ErrTwice, func(m *api.Image) { m.Funcs[1].Name = m.Funcs[0].Name }},
	{"a gap between Funcs", api.ErrOrder, func(m *api.Image) { m.Funcs[2].Start++ }},
	{"Text behind the last one", api.ErrOrder, func(m *api.Image) { m.Text = append(m.Text, 3) }},
	{"no such Entry", api.ErrNone, func(m *api.Image) { m.Entry = 99 }},
	{"too many Tables", api.ErrSize, func(m *api.Image) { m.Tables = append(m.Tables, make([][]int, api.MaxTables)...) }},
	{"too many Data", api.ErrSize, func(m *api.Image) { m.Data = append(m.Data, make([]int, api.MaxData)...) }},
	{"a table too long", api.ErrSize, func(m *api.Image) { m.Tables[0] = make([]int, api.MaxTable+1) }},
	{"a wrong address", api.ErrRange, func(m *api.Image) { m.Tables[2][1] = -1 }},
	{"a wrong number", api.ErrRange, func(m *api.Image) { m.Data[1] = api.MaxInt + 1 }},
	{"too many Lines", api.ErrSize, func(m *api.Image) { m.Lines = append(m.Lines, make([]api.Line, api.MaxLines)...) }},
	{"a wrong line", api.ErrRange, func(m *api.Image) { m.Lines[0].N = -1 }},
	{"Lines out of order", api.ErrOrder, func(m *api.Image) { m.Lines[1].At = 0 }},
}

// TestCheckOrder: of two faults the one that is named first is told (P2.1), by Encode (P2.3) as well.
func TestCheckOrder(t *testing.T) {
	for i, first := range faults {
		for _, second := range faults[i:] {
			m := with(second.change)
			first.change(&m)
			refused(t, first.what+", and "+second.what, m, first.want)
		}
	}
}

// TestCheckSizes: at each limit, and one beyond it (P2.1).
func TestCheckSizes(t *testing.T) {
	taken(t, "the sample", sample())
	taken(t, "the greatest", greatest())
	beyond := []fault{
		{"Text", api.ErrSize, func(m *api.Image) {
			m.Text = append(m.Text, 0)
			m.Funcs[api.MaxFuncs-1].Size++
		}},
		{"Funcs", api.ErrSize, func(m *api.Image) {
			m.Funcs[api.MaxFuncs-1].Size--
			m.Funcs = append(m.Funcs, api.Func{Name: "x", Start: api.MaxText - 1, Size: 1})
		}},
		{"Tables", api.ErrSize, func(m *api.Image) { m.Tables = append(m.Tables, nil) }},
		{"Data", api.ErrSize, func(m *api.Image) { m.Data = append(m.Data, 0) }},
		{"a table", api.ErrSize, func(m *api.Image) { m.Tables[19] = append(m.Tables[19], 0) }},
		{"Lines", api.ErrSize, func(m *api.Image) {
			m.Lines = append([]api.Line{{At: 0, N: 1}}, m.Lines...)
		}},
		{"a name", api.ErrForm, func(m *api.Image) { m.Funcs[39].Name += "0" }},
	}
	for _, c := range beyond {
		m := greatest()
		c.change(&m)
		refused(t, c.what, m, c.want)
	}
}

// TestCheckNames: how long a name is, which bytes it has, and whether it is there already (P2.1).
func TestCheckNames(t *testing.T) {
	named := func(name string) api.Image {
		return with(func(m *api.Image) { m.Funcs[1].Name = name })
	}
	for c := range 256 {
		for _, name := range []string{string([]byte{byte(c)}), string([]byte{'a', byte(c)}), string([]byte{byte(c), 'a'})} {
			if strings.IndexByte("abcdefghijklmnopqrstuvwxyz0123456789_.", byte(c)) >= 0 {
				if name != "g" {
					taken(t, "name "+strconv.Quote(name), named(name))
				}
			} else {
				refused(t, "name "+strconv.Quote(name), named(name), api.ErrForm)
			}
		}
	}
	taken(t, "a name of 16", named(strings.Repeat("a", 16)))
	refused(t, "a name of 17", named(strings.Repeat("a", 17)), api.ErrForm)
	refused(t, "no name", named(""), api.ErrForm)
	refused(t, "a letter of two bytes", named("é"), api.ErrForm)
	refused(t, "the name ahead", named("main"), api.ErrTwice)
	refused(t, "the name behind", named("g"), api.ErrTwice)
	taken(t, "a beginning of the name ahead", named("mai"))
	refused(t, "the last has the first's name", with(func(m *api.Image) { m.Funcs[2].Name = "main" }), api.ErrTwice)
}

// TestCheckFuncs: functions stand one behind the other, and fill the Text (P2.1).
func TestCheckFuncs(t *testing.T) {
	wrong := map[string]func(m *api.Image){
		"the first not at 0": func(m *api.Image) { m.Funcs[0].Start, m.Funcs[0].Size = 1, 1 },
		"the first below 0":  func(m *api.Image) { m.Funcs[0].Start, m.Funcs[0].Size = -1, 3 },
		"a gap":              func(m *api.Image) { m.Funcs[1].Start, m.Funcs[1].Size = 3, 257 },
		"over the one ahead": func(m *api.Image) { m.Funcs[1].Start, m.Funcs[1].Size = 1, 259 },
		"no bytes":           func(m *api.Image) { m.Funcs[0].Size, m.Funcs[1].Start, m.Funcs[1].Size = 0, 0, 260 },
		"fewer than none":    func(m *api.Image) { m.Funcs[1].Size, m.Funcs[2].Start, m.Funcs[2].Size = -1, 1, 299 },
		"one too many":       func(m *api.Image) { m.Funcs[2].Size++ },
		"one too few":        func(m *api.Image) { m.Funcs[2].Size-- },
		"the most":           func(m *api.Image) { m.Funcs[2].Size = math.MaxInt },
		"the least":          func(m *api.Image) { m.Funcs[2].Size = math.MinInt },
		"the first too long": func(m *api.Image) { m.Funcs[0].Size = 301 },
		"far away":           func(m *api.Image) { m.Funcs[2].Start = math.MinInt },
		"one is missing":     func(m *api.Image) { m.Funcs = m.Funcs[:2] },
		"all are missing":    func(m *api.Image) { m.Funcs = nil },
		"no Text":            func(m *api.Image) { m.Text = nil },
	}
	for what, change := range wrong {
		refused(t, what, with(change), api.ErrOrder)
	}
	one := api.Image{Text: []byte{0}, Funcs: []api.Func{{Name: "f", Size: 1}}}
	taken(t, "one function of one byte", one)
	refused(t, "nothing at all", api.Image{}, api.ErrNone)
}

// TestCheckFuncByFunc: what is wrong with a function is told ahead of what is wrong with the next (P2.1).
func TestCheckFuncByFunc(t *testing.T) {
	refused(t, "ErrOrder, then ErrForm", with(func(m *api.Image) {
		m.Funcs[0].Size, m.Funcs[1].Name = 0, "?"
	}), api.ErrOrder)
	refused(t, "ErrOrder, then ErrTwice", with(func(m *api.Image) {
		m.Funcs[0].Start, m.Funcs[1].Name = 5, "main"
	}), api.ErrOrder)
	refused(t, "ErrTwice, then ErrForm", with(func(m *api.Image) {
		m.Funcs[1].Name, m.Funcs[2].Name = "main", "?"
	}), api.ErrTwice)
	refused(t, "ErrForm, then ErrTwice", with(func(m *api.Image) {
		m.Funcs[0].Name, m.Funcs[1].Name = "?", "?"
	}), api.ErrForm)
	refused(t, "ErrForm and ErrOrder", with(func(m *api.Image) {
		m.Funcs[1].Name, m.Funcs[1].Size = "", 0
	}), api.ErrForm)
	refused(t, "ErrTwice and ErrOrder", with(func(m *api.Image) {
		m.Funcs[1].Name, m.Funcs[1].Size = "main", 0
	}), api.ErrTwice)
}

// TestCheckEntry: it is a function's place (P2.1).
func TestCheckEntry(t *testing.T) {
	for n := range 3 {
		taken(t, "an Entry", with(func(m *api.Image) { m.Entry = n }))
	}
	for _, n := range []int{-1, 3, math.MinInt, math.MaxInt} {
		refused(t, "an Entry", with(func(m *api.Image) { m.Entry = n }), api.ErrNone)
	}
}

// TestCheckNumbers: addresses and Data within their bounds, table by table (P2.1).
func TestCheckNumbers(t *testing.T) {
	for _, at := range []int{0, 1, 299} {
		taken(t, "an address", with(func(m *api.Image) { m.Tables[0][1] = at }))
	}
	for _, at := range []int{-1, 300, math.MinInt, math.MaxInt} {
		for k := range 2 {
			refused(t, "an address", with(func(m *api.Image) { m.Tables[0][k] = at }), api.ErrRange)
		}
	}
	for _, n := range []int{-api.MaxInt - 1, api.MaxInt + 1, math.MinInt, math.MaxInt} {
		for k := range 5 {
			refused(t, "a number", with(func(m *api.Image) { m.Data[k] = n }), api.ErrRange)
		}
	}
	long := make([]int, api.MaxTable+1)
	refused(t, "a wrong address ahead of a long table", with(func(m *api.Image) {
		m.Tables[0][1], m.Tables[1] = 300, long
	}), api.ErrRange)
	refused(t, "a wrong address behind a long table", with(func(m *api.Image) {
		m.Tables[1], m.Tables[2][0] = long, 300
	}), api.ErrSize)
	refused(t, "a wrong address in a long table", with(func(m *api.Image) {
		m.Tables[0] = append([]int{-1}, long...)
	}), api.ErrSize)
}

// TestCheckLines: line by line, N within its bounds, and At above the one ahead (P2.1).
func TestCheckLines(t *testing.T) {
	lined := func(l ...api.Line) api.Image {
		return with(func(m *api.Image) { m.Lines = l })
	}
	taken(t, "no Lines", lined())
	taken(t, "the first and the last byte", lined(api.Line{At: 0, N: api.MaxLine}, api.Line{At: 299, N: 0}))
	taken(t, "one behind the other", lined(api.Line{At: 5, N: 2}, api.Line{At: 6, N: 1}))
	for _, n := range []int{-1, api.MaxLine + 1, math.MinInt, math.MaxInt} {
		refused(t, "N", lined(api.Line{At: 1, N: 1}, api.Line{At: 2, N: n}), api.ErrRange)
		refused(t, "N ahead of At", lined(api.Line{At: -1, N: n}), api.ErrRange)
	}
	for _, at := range []int{-1, 300, math.MinInt, math.MaxInt} {
		refused(t, "At", lined(api.Line{At: at, N: 1}), api.ErrOrder)
		refused(t, "At", lined(api.Line{At: 7, N: 1}, api.Line{At: at, N: 1}), api.ErrOrder)
	}
	refused(t, "the same At", lined(api.Line{At: 5, N: 1}, api.Line{At: 5, N: 2}), api.ErrOrder)
	refused(t, "a lower At", lined(api.Line{At: 5, N: 1}, api.Line{At: 4, N: 2}), api.ErrOrder)
	refused(t, "a lower At, later", lined(api.Line{At: 1}, api.Line{At: 5}, api.Line{At: 4}), api.ErrOrder)
	refused(t, "ErrOrder, then ErrRange", lined(api.Line{At: 300, N: 1}, api.Line{At: 301, N: -1}), api.ErrOrder)
	refused(t, "ErrRange, then ErrOrder", lined(api.Line{At: 3, N: -1}, api.Line{At: 2, N: 1}), api.ErrRange)
}

// TestLineAt: the last Line, as they stand, whose At is not above the address (P2.2).
func TestLineAt(t *testing.T) {
	ordered := []api.Line{{At: 2, N: 7}, {At: 5, N: 0}, {At: 9, N: 3}}
	mixed := []api.Line{{At: 9, N: 1}, {At: 3, N: 2}, {At: 6, N: 4}, {At: 3, N: 5}, {At: 8, N: -6}}
	for _, c := range []struct {
		lines    []api.Line
		at, want int
	}{
		{nil, 0, 0},
		{nil, math.MinInt, 0},
		{ordered, math.MinInt, 0},
		{ordered, 1, 0},
		{ordered, 2, 7},
		{ordered, 4, 7},
		{ordered, 5, 0},
		{ordered, 8, 0},
		{ordered, 9, 3},
		{ordered, math.MaxInt, 3},
		{mixed, 2, 0},
		{mixed, 3, 5},
		{mixed, 7, 5},
		{mixed, 8, -6},
		{mixed, 9, -6},
		{[]api.Line{{At: 6, N: 4}, {At: 9, N: 1}}, 7, 4},
		{[]api.Line{{At: -5, N: math.MinInt}}, -5, math.MinInt},
		{[]api.Line{{At: -5, N: math.MinInt}}, -6, 0},
	} {
		if n := image.LineAt(api.Image{Lines: c.lines}, c.at); n != c.want {
			t.Errorf("LineAt(%v, %d) = %d, want %d", c.lines, c.at, n, c.want)
		}
	}
}

// TestCopy: the same image, one that may not be as well (P2.2).
func TestCopy(t *testing.T) {
	wild := api.Image{
		Text:   []byte{255},
		Funcs:  []api.Func{{Name: "Ä", Start: -4, Size: math.MaxInt}, {}},
		Tables: [][]int{{-1}, nil, {}, {math.MinInt}},
		Data:   []int{math.MaxInt},
		Lines:  []api.Line{{At: 9, N: -1}, {At: 3, N: 2}},
		Entry:  -7,
	}
	want := api.Image{
		Text:   []byte{255},
		Funcs:  []api.Func{{Name: "Ä", Start: -4, Size: math.MaxInt}, {}},
		Tables: [][]int{{-1}, {}, {}, {math.MinInt}},
		Data:   []int{math.MaxInt},
		Lines:  []api.Line{{At: 9, N: -1}, {At: 3, N: 2}},
		Entry:  -7,
	}
	if got := image.Copy(wild); !reflect.DeepEqual(got, want) {
		t.Errorf("Copy = %v, want %v", got, want)
	}
	if got := image.Copy(sample()); !reflect.DeepEqual(got, sample()) {
		t.Errorf("Copy = %v, want %v", got, sample())
	}
	if m := image.Copy(api.Image{}); len(m.Text)+len(m.Funcs)+len(m.Tables)+len(m.Data)+len(m.Lines)+m.Entry != 0 {
		t.Errorf("Copy of nothing = %v", m)
	}
}

// spoil all that an image holds, spare room too.
func spoil(m api.Image) {
	for k := range m.Text[:cap(m.Text)] {
		m.Text[:cap(m.Text)][k] ^= 255
	}
	for k := range m.Funcs[:cap(m.Funcs)] {
		m.Funcs[:cap(m.Funcs)][k] = api.Func{Name: "spoilt", Start: -9, Size: -9}
	}
	for _, l := range m.Tables[:cap(m.Tables)] {
		for k := range l[:cap(l)] {
			l[:cap(l)][k] = -9
		}
	}
	for k := range m.Tables[:cap(m.Tables)] {
		m.Tables[:cap(m.Tables)][k] = []int{-9}
	}
	for k := range m.Data[:cap(m.Data)] {
		m.Data[:cap(m.Data)][k] = -9
	}
	for k := range m.Lines[:cap(m.Lines)] {
		m.Lines[:cap(m.Lines)][k] = api.Line{At: -9, N: -9}
	}
}

// roomy: the sample, each list of which has spare room.
func roomy() api.Image {
	m := sample()
	m.Text = append(make([]byte, 0, 400), m.Text...)
	m.Funcs = append(make([]api.Func, 0, 9), m.Funcs...)
	for k, l := range m.Tables {
		m.Tables[k] = append(make([]int, 0, 9), l...)
	}
	m.Tables = append(make([][]int, 0, 9), m.Tables...)
	m.Data = append(make([]int, 0, 9), m.Data...)
	m.Lines = append(make([]api.Line, 0, 9), m.Lines...)
	return m
}

// whole: an image with the spare room of its lists as elements.
func whole(m api.Image) api.Image {
	m.Tables = append([][]int{}, m.Tables[:cap(m.Tables)]...)
	for k, l := range m.Tables {
		m.Tables[k] = l[:cap(l)]
	}
	m.Text, m.Funcs = m.Text[:cap(m.Text)], m.Funcs[:cap(m.Funcs)]
	m.Data, m.Lines = m.Data[:cap(m.Data)], m.Lines[:cap(m.Lines)]
	return m
}

// TestMemory: what is handed in is not changed, and shares no memory with what comes out.
func TestMemory(t *testing.T) {
	m := roomy()
	copied := image.Copy(m)
	b, _ := image.Encode(m)
	image.Check(m)
	image.LineAt(m, 3)
	if !same(whole(m), whole(roomy())) {
		t.Errorf("an image that was handed in was changed")
	}
	kept := append([]byte{}, b...)
	decoded, _ := image.Decode(b)
	if !reflect.DeepEqual(b, kept) {
		t.Errorf("bytes that were handed in were changed")
	}
	spoil(m)
	if !same(copied, sample()) || !reflect.DeepEqual(b, kept) {
		t.Errorf("an answer shares memory with the image")
	}
	for k := range b[:cap(b)] {
		b[:cap(b)][k] ^= 255
	}
	if !same(decoded, sample()) {
		t.Errorf("an image shares memory with its bytes")
	}
	m = sample()
	copied = image.Copy(m)
	spoil(copied)
	if !same(m, sample()) {
		t.Errorf("an image shares memory with its copy")
	}
}

// TestListsApart: no two lists of an answer share memory, spare room neither.
func TestListsApart(t *testing.T) {
	b, _ := image.Encode(sample())
	decoded, _ := image.Decode(b)
	for what, m := range map[string]api.Image{"Copy": image.Copy(roomy()), "Decode": decoded} {
		for k, l := range m.Tables {
			for n := range l[:cap(l)] {
				l[:cap(l)][n] = -1 - k
			}
		}
		for n := range m.Data[:cap(m.Data)] {
			m.Data[:cap(m.Data)][n] = -9
		}
		for k, l := range m.Tables {
			for _, n := range l {
				if n != -1-k {
					t.Errorf("%s: table %d shares memory with another list", what, k)
				}
			}
		}
	}
}
