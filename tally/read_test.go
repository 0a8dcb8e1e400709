package tally_test

import (
	"fmt"
	"slices"
	"strings"
	"testing"

	"bolthole/api"
	"bolthole/tally"
)

// reads: the text has these edges.
func reads(t *testing.T, what, s string, want ...api.Edge) {
	t.Helper()
	if got, e := tally.Read(s); e != api.OK || !slices.Equal(got, want) {
		t.Errorf("%s: Read(%.60q) = %v, %v, want %v, OK", what, s, got, e, want)
	}
}

// unread: the text is refused so.
func unread(t *testing.T, what, s string, want api.Errno) {
	t.Helper()
	if got, e := tally.Read(s); e != want || len(got) != 0 {
		t.Errorf("%s: Read(%.60q) = %v, %v, want none, %v", what, s, got, e, want)
	}
}

// P5.1: the edges of a text, in the order of its lines, whatever they say.
func TestRead(t *testing.T) {
	reads(t, "nothing", "")
	reads(t, "a line", "1 2 3\n", api.Edge{From: 1, To: 2, Count: 3})
	reads(t, "zeros", "0 0 0\n", api.Edge{})
	reads(t, "the greatest", "1073741824 1073741824 1073741824\n", api.Edge{From: api.MaxCount, To: api.MaxCount, Count: api.MaxCount})
	reads(t, "all digits", "1234567 890 10\n", api.Edge{From: 1234567, To: 890, Count: 10})
	reads(t, "lines", "7 0 5\n3 20 0\n7 0 5\n1 100 9\n",
		api.Edge{From: 7, Count: 5}, api.Edge{From: 3, To: 20}, api.Edge{From: 7, Count: 5}, api.Edge{From: 1, To: 100, Count: 9})
}

// P5.1: numbers that may not be, in each of the three places, in the first line and in the last one.
func TestReadNumbers(t *testing.T) {
	for _, word := range []string{
		"", "00", "01", "007", "0000000000000000000000000000000000", "00000000001", "-0", "-1", "+1", "+0", "-1073741824",
		"1073741825", "1073741833", "2000000000", "2147483648", "4294967296", "4294967297", "9999999999", "10737418240",
		"9223372036854775807", "9223372036854775808", "18446744073709551615", "18446744073709551616", "18446744073709551617",
		"36893488147419103232", strings.Repeat("1", 1000), "1" + strings.Repeat("0", 1000),
		"x", "1x", "x1", "0x1", "1_0", "0b1", "0o7", "1e3", "1.0", ".", "1,", "/", ":", "1/", "1:", "a", "A", "-", "+", "--1",
		"\t", "\t1", "1\t", "\r", "1\r", "\x001", "1\x00", "\x00", "\v1", "1\f", "1\xa0", "\u00a01", "\xff", "1\x80", "²", "١", "１", "∞",
	} {
		for place := range 3 {
			words := []string{"4", "5", "6"}
			words[place] = word
			line := strings.Join(words, " ") + "\n"
			what := fmt.Sprintf("%.20q at place %d", word, place)
			unread(t, what, line, api.ErrForm)
			unread(t, what+", with a line ahead", "1 2 3\n"+line, api.ErrForm)
			unread(t, what+", with a line behind", line+"1 2 3\n", api.ErrForm)
		}
	}
}

// P5.1: each byte that is no digit, behind a number, ahead of one, and in its place.
func TestReadBytes(t *testing.T) {
	for c := range 256 {
		if c >= '0' && c <= '9' || c == '\n' {
			continue
		}
		b := string([]byte{byte(c)})
		for _, s := range []string{b, b + "1", "1" + b, "1" + b + "1"} {
			unread(t, fmt.Sprintf("the byte %d", c), "1 2 "+s+"\n", api.ErrForm)
			unread(t, fmt.Sprintf("the byte %d", c), s+" 2 3\n", api.ErrForm)
		}
		if c != ' ' {
			unread(t, fmt.Sprintf("the byte %d for a blank", c), "1"+b+"2 3\n", api.ErrForm)
			unread(t, fmt.Sprintf("the byte %d for a blank", c), "1 2"+b+"3\n", api.ErrForm)
		}
	}
}

// P5.1: lines that are not of three numbers with one blank between.
func TestReadForm(t *testing.T) {
	for _, line := range []string{
		"", " ", "  ", "   ", "1", "1 ", "1 2", "1 2 ", " 1 2", "1  2", "1 2 3 ", " 1 2 3", "1  2 3", "1 2  3", "1 2 3  ",
		"1 2 3 4", "1 2 3 4 5 6", "123", "1\t2\t3", "1,2,3", "1 2 3\r", "1 2 3;", "1 2 3 # so", "# so", "From To Count",
	} {
		unread(t, "alone", line+"\n", api.ErrForm)
		unread(t, "behind a line", "1 2 3\n"+line+"\n", api.ErrForm)
		unread(t, "ahead of a line", line+"\n1 2 3\n", api.ErrForm)
	}
	unread(t, "a number a line", "1\n2\n3\n", api.ErrForm)
}

// P5.1: a line without the byte 10 behind it, whatever it says; but a line ahead of it that is not in form is told first.
func TestReadShort(t *testing.T) {
	for _, line := range []string{"1 2 3", "1", " ", "x", "1 2 3 4", "1 2 01", "\r", "\x00", "1 2 1073741825"} {
		unread(t, "alone", line, api.ErrShort)
		unread(t, "behind a line", "1 2 3\n"+line, api.ErrShort)
		unread(t, "behind some", strings.Repeat("0 0 0\n", 50)+line, api.ErrShort)
		unread(t, "behind one that is not in form", "1 2\n"+line, api.ErrForm)
		unread(t, "behind an empty one", "\n"+line, api.ErrForm)
		unread(t, "behind one in form and one that is not", "1 2 3\n1 2 x\n"+line, api.ErrForm)
	}
}

// P5.1: as many bytes as may be, and more, whatever they are.
func TestReadSize(t *testing.T) {
	s := strings.Repeat("1 1 1\n", (api.MaxTally-10)/6) + "10 20 300\n"
	if len(s) != api.MaxTally {
		t.Fatalf("the text has %d bytes, want %d", len(s), api.MaxTally)
	}
	l, e := tally.Read(s)
	if e != api.OK || len(l) != (api.MaxTally-10)/6+1 {
		t.Fatalf("Read has %d edges, %v", len(l), e)
	}
	if last := (api.Edge{From: 10, To: 20, Count: 300}); l[len(l)-1] != last || l[0] != (api.Edge{From: 1, To: 1, Count: 1}) {
		t.Errorf("the first edge is %v, the last one %v", l[0], l[len(l)-1])
	}
	unread(t, "a digit more", strings.Repeat("1 1 1\n", (api.MaxTally-10)/6)+"10 20 3000\n", api.ErrSize)
	unread(t, "an empty line more", s+"\n", api.ErrSize)
	unread(t, "short", s+"1", api.ErrSize)
	unread(t, "not in form", "x\n"+s, api.ErrSize)
	unread(t, "lines", strings.Repeat(s, 100), api.ErrSize)
	unread(t, "one line, as long as may be", strings.Repeat("1", api.MaxTally), api.ErrShort)
	unread(t, "one line, as long as may be", strings.Repeat("1", api.MaxTally-1)+"\n", api.ErrForm)
	unread(t, "blanks", strings.Repeat(" ", api.MaxTally-1)+"\n", api.ErrForm)
	unread(t, "empty lines", strings.Repeat("\n", api.MaxTally), api.ErrForm)
	unread(t, "one line, longer than may be", strings.Repeat("1", api.MaxTally+1), api.ErrSize)
}

// P5.1: what is told is read as it was; with a byte that is another one, or is not there, it is so still, or it is refused.
func TestReadDrawn(t *testing.T) {
	d := die(1)
	taken, left := 0, 0
	for range 5000 {
		var l []api.Edge
		s := ""
		for range d.n(6) {
			e := api.Edge{From: d.n(200), To: d.n(3), Count: d.n(api.MaxCount + 1)}
			l = append(l, e)
			s += told(e)
		}
		reads(t, "drawn", s, l...)
		if s == "" {
			continue
		}
		k := d.n(len(s))
		s = s[:k] + []string{"", " ", "\n", "0", "7", "-", "x"}[d.n(7)] + s[k+1:]
		got, e := tally.Read(s)
		again := ""
		for _, e := range got {
			again += told(e)
		}
		switch {
		case e == api.OK && again == s:
			taken++
		case (e == api.ErrForm || e == api.ErrShort) && len(got) == 0:
			left++
		default:
			t.Errorf("Read(%q) = %v, %v", s, got, e)
		}
	}
	if taken < 500 || left < 500 {
		t.Errorf("%d were taken, %d were left", taken, left)
	}
}

// P5.1: two answers share no memory.
func TestReadMemory(t *testing.T) {
	first, _ := tally.Read("1 2 3\n4 5 6\n7 8 9\n")
	second, _ := tally.Read("1 2 3\n4 5 6\n7 8 9\n")
	clear(first[:cap(first)])
	if want := []api.Edge{{From: 1, To: 2, Count: 3}, {From: 4, To: 5, Count: 6}, {From: 7, To: 8, Count: 9}}; !slices.Equal(second, want) {
		t.Errorf("the second answer is %v, want %v", second, want)
	}
}
