package pack_test

import (
	"math"
	"strings"
	"testing"

	"pyx/api"
	"pyx/pack"
)

// numbers: the least and the greatest of each count of bytes, of both signs, and some between.
var numbers = []struct {
	n    int
	want string
}{
	{0, "\x00"},
	{-1, "\x01"},
	{1, "\x02"},
	{-2, "\x03"},
	{63, "\x7e"},
	{-64, "\x7f"},
	{64, "\x80\x01"},
	{-65, "\x81\x01"},
	{300, "\xd8\x04"},
	{-300, "\xd7\x04"},
	{1<<13 - 1, "\xfe\x7f"},
	{-1 << 13, "\xff\x7f"},
	{1 << 13, "\x80\x80\x01"},
	{-1<<13 - 1, "\x81\x80\x01"},
	{1<<20 - 1, "\xfe\xff\x7f"},
	{-1 << 20, "\xff\xff\x7f"},
	{1 << 20, "\x80\x80\x80\x01"},
	{-1<<20 - 1, "\x81\x80\x80\x01"},
	{1<<27 - 1, "\xfe\xff\xff\x7f"},
	{-1 << 27, "\xff\xff\xff\x7f"},
	{1 << 27, "\x80\x80\x80\x80\x01"},
	{-1<<27 - 1, "\x81\x80\x80\x80\x01"},
	{1<<34 - 1, "\xfe\xff\xff\xff\x7f"},
	{-1 << 34, "\xff\xff\xff\xff\x7f"},
	{1 << 34, "\x80\x80\x80\x80\x80\x01"},
	{-1<<34 - 1, "\x81\x80\x80\x80\x80\x01"},
	{1<<41 - 1, "\xfe\xff\xff\xff\xff\x7f"},
	{-1 << 41, "\xff\xff\xff\xff\xff\x7f"},
	{1 << 41, "\x80\x80\x80\x80\x80\x80\x01"},
	{-1<<41 - 1, "\x81\x80\x80\x80\x80\x80\x01"},
	{1<<48 - 1, "\xfe\xff\xff\xff\xff\xff\x7f"},
	{-1 << 48, "\xff\xff\xff\xff\xff\xff\x7f"},
	{1 << 48, "\x80\x80\x80\x80\x80\x80\x80\x01"},
	{-1<<48 - 1, "\x81\x80\x80\x80\x80\x80\x80\x01"},
	{1<<55 - 1, "\xfe\xff\xff\xff\xff\xff\xff\x7f"},
	{-1 << 55, "\xff\xff\xff\xff\xff\xff\xff\x7f"},
	{1 << 55, "\x80\x80\x80\x80\x80\x80\x80\x80\x01"},
	{-1<<55 - 1, "\x81\x80\x80\x80\x80\x80\x80\x80\x01"},
	{1<<62 - 1, "\xfe\xff\xff\xff\xff\xff\xff\xff\x7f"},
	{-1 << 62, "\xff\xff\xff\xff\xff\xff\xff\xff\x7f"},
	{1 << 62, "\x80\x80\x80\x80\x80\x80\x80\x80\x80\x01"},
	{-1<<62 - 1, "\x81\x80\x80\x80\x80\x80\x80\x80\x80\x01"},
	{math.MaxInt, "\xfe\xff\xff\xff\xff\xff\xff\xff\xff\x01"},
	{math.MinInt, "\xff\xff\xff\xff\xff\xff\xff\xff\xff\x01"},
}

// tails are bytes behind a number or a text, among them some that could be taken for a part of it.
var tails = []string{"", "\x00", "\x01", "\x7f", "\x80", "\xff", "\x80\x00", "\xff\xff\xff\xff\xff\xff\xff\xff\xff\xff\xff", "xyz"}

// heads are bytes ahead of one.
var heads = []string{"", "\x00", "\x80", "\xff\xff", "ab", strings.Repeat("\x80", 40)}

// anyBytes is a text of that length with all values of a byte, in turn.
func anyBytes(length int) string {
	b := make([]byte, length)
	for i := range b {
		b[i] = byte(255 - i)
	}
	return string(b)
}

// spared is s with spare room behind it, in which fill stands.
func spared(s, fill string) []byte {
	return []byte(s + fill)[:len(s)]
}

// all is b with its spare room.
func all(b []byte) string { return string(b[:cap(b)]) }

// scrub turns each byte of b, and of its spare room.
func scrub(b []byte) {
	for i := range b[:cap(b)] {
		b[:cap(b)][i] ^= 0x55
	}
}

func readInt(t *testing.T, b []byte, want int, behind string) {
	t.Helper()
	n, rest, e := pack.ReadInt(b)
	if n != want || string(rest) != behind || e != api.OK {
		t.Errorf("4.1: ReadInt(%x) = %d, %x, %d, want %d, %x", b, n, rest, e, want, behind)
	}
}

func readText(t *testing.T, b []byte, want, behind string) {
	t.Helper()
	s, rest, e := pack.ReadText(b)
	if s != want || string(rest) != behind || e != api.OK {
		t.Errorf("4.1: ReadText(%x) = %x, %x, %d, want %x, %x", b, s, rest, e, want, behind)
	}
}

// noNumber holds that b begins with no number, and so with no text.
func noNumber(t *testing.T, b []byte) {
	t.Helper()
	if n, rest, e := pack.ReadInt(b); n != 0 || len(rest) != 0 || e != api.ErrForm {
		t.Errorf("4.1: ReadInt(%x) = %d, %x, %d, want ErrForm", b, n, rest, e)
	}
	noText(t, b)
}

func noText(t *testing.T, b []byte) {
	t.Helper()
	if s, rest, e := pack.ReadText(b); s != "" || len(rest) != 0 || e != api.ErrForm {
		t.Errorf("4.1: ReadText(%x) = %x, %x, %d, want ErrForm", b, s, rest, e)
	}
}

func TestExample(t *testing.T) {
	if b := pack.Int(nil, -1); string(b) != "\x01" {
		t.Errorf("4.1: Int(-1): %x", b)
	}
	if b := pack.Int(pack.Int(nil, -1), 300); string(b) != "\x01\xd8\x04" {
		t.Errorf("4.1: Int(-1), Int(300): %x", b)
	}
}

func TestInt(t *testing.T) {
	for _, c := range numbers {
		for _, head := range heads {
			if b := pack.Int([]byte(head), c.n); string(b) != head+c.want {
				t.Errorf("4.1: Int(%x, %d) = %x, want %x behind it", head, c.n, b, c.want)
			}
		}
		if b := pack.Int(nil, c.n); string(b) != c.want {
			t.Errorf("4.1: Int(nil, %d) = %x, want %x", c.n, b, c.want)
		}
	}
}

func TestReadInt(t *testing.T) {
	for _, c := range numbers {
		for _, tail := range tails {
			readInt(t, []byte(c.want+tail), c.n, tail)
		}
	}
}

// TestCut: a number that ends too early, at each place; what stands in the spare room is no part of it.
func TestCut(t *testing.T) {
	noNumber(t, nil)
	noNumber(t, []byte{})
	for _, c := range numbers {
		for k := range len(c.want) {
			noNumber(t, []byte(c.want[:k]))
			noNumber(t, spared(c.want[:k], c.want[k:]))
		}
	}
}

// TestTooLong: more than ten bytes, whatever is in them, and at each length that says that more follows.
func TestTooLong(t *testing.T) {
	for _, c := range []string{"\x80", "\x81", "\xff"} {
		for count := 1; count <= 70; count++ {
			noNumber(t, []byte(strings.Repeat(c, count)))
		}
		for count := 10; count <= 70; count++ {
			for _, last := range []string{"\x00", "\x01", "\x02", "\x7f"} {
				noNumber(t, []byte(strings.Repeat(c, count)+last))
			}
		}
	}
	noNumber(t, []byte("\xff\xff\xff\xff\xff\xff\xff\xff\xff\x81\x00"))
	noNumber(t, []byte("\xff\xff\xff\xff\xff\xff\xff\xff\xff\x81\x01"))
}

// TestTenthByte: of the tenth byte only 1 is in the 64 bits, and 0 is a last group behind others.
func TestTenthByte(t *testing.T) {
	for _, nine := range []string{strings.Repeat("\x80", 9), strings.Repeat("\xff", 9)} {
		for last := range 256 {
			b := append([]byte(nine), byte(last))
			if last != 1 {
				noNumber(t, b)
				noNumber(t, append(b, 0))
				noNumber(t, append(b, "abc"...))
			}
		}
	}
	readInt(t, []byte(strings.Repeat("\x80", 9)+"\x01"), 1<<62, "")
	readInt(t, []byte(strings.Repeat("\xff", 9)+"\x01"), math.MinInt, "")
}

// TestLastZero: a last group of 0 behind others is none; a single 0 is 0.
func TestLastZero(t *testing.T) {
	for _, c := range []string{"\x80", "\x81", "\xc0", "\xff"} {
		for count := 1; count <= 10; count++ {
			noNumber(t, []byte(strings.Repeat(c, count)+"\x00"))
			noNumber(t, []byte(strings.Repeat(c, count)+"\x00\x01"))
		}
	}
	readInt(t, []byte("\x00"), 0, "")
	readInt(t, []byte("\x00\x00"), 0, "\x00")
	// A group of 0 that is not the last one is a group as others are.
	readInt(t, []byte("\x80\x80\x01"), 1<<13, "")
	readInt(t, []byte("\x82\x80\x01\x00"), 1<<13+1, "\x00")
}

// lengths: texts of these lengths, and what stands ahead of each.
var lengths = []struct {
	length int
	want   string
}{
	{0, "\x00"},
	{1, "\x02"},
	{2, "\x04"},
	{63, "\x7e"},
	{64, "\x80\x01"},
	{65, "\x82\x01"},
	{127, "\xfe\x01"},
	{128, "\x80\x02"},
	{129, "\x82\x02"},
	{256, "\x80\x04"},
	{1000, "\xd0\x0f"},
	{1<<13 - 1, "\xfe\x7f"},
	{1 << 13, "\x80\x80\x01"},
	{1 << 20, "\x80\x80\x80\x01"},
}

func TestText(t *testing.T) {
	for _, c := range lengths {
		for _, s := range []string{anyBytes(c.length), strings.Repeat("\x00", c.length), strings.Repeat("\x80", c.length)} {
			for _, head := range heads {
				if b := pack.Text([]byte(head), s); string(b) != head+c.want+s {
					t.Errorf("4.1: Text(%x, a text of %d) is of %d bytes", head, c.length, len(b))
				}
			}
			if b := pack.Text(nil, s); string(b) != c.want+s {
				t.Errorf("4.1: Text(nil, a text of %d) is of %d bytes", c.length, len(b))
			}
			for _, tail := range tails {
				readText(t, []byte(c.want+s+tail), s, tail)
			}
		}
	}
}

// TestTextCut: a text of which a byte or more is missing, at each place, also where the spare room has it.
func TestTextCut(t *testing.T) {
	for _, length := range []int{0, 1, 2, 63, 64, 127, 128, 300} {
		b := pack.Text(nil, anyBytes(length))
		for k := range len(b) {
			noText(t, []byte(string(b[:k])))
			noText(t, spared(string(b[:k]), string(b[k:])))
		}
	}
}

// TestTextLength: lengths below 0, about what there is, and up to the greatest int.
func TestTextLength(t *testing.T) {
	for _, there := range []int{0, 1, 2, 63, 64, 127, 128, 300} {
		s := anyBytes(there)
		none := []int{
			-1, -2, -there - 1, -1 << 31, -1 << 32, -1 << 62, math.MinInt + there, math.MinInt + 1, math.MinInt,
			there + 1, there + 2, there + 10, 1 << 31, 1 << 32, 1<<32 + there, 1 << 62,
			math.MaxInt - there - 10, math.MaxInt - there, math.MaxInt - 10, math.MaxInt - 9, math.MaxInt - 1, math.MaxInt,
		}
		for _, length := range none {
			noText(t, append(pack.Int(nil, length), s...))
		}
		readText(t, append(pack.Int(nil, there), s...), s, "")
		if there > 0 {
			readText(t, append(pack.Int(nil, there-1), s...), s[:there-1], s[there-1:])
		}
		readText(t, append(pack.Int(nil, 0), s...), "", s)
	}
}

// TestPutIsNew: what stands ahead, with its spare room, is not changed, and the answer shares nothing with it.
func TestPutIsNew(t *testing.T) {
	puts := map[string]func(b []byte) []byte{
		"Int 0":    func(b []byte) []byte { return pack.Int(b, 0) },
		"Int max":  func(b []byte) []byte { return pack.Int(b, math.MaxInt) },
		"Text":     func(b []byte) []byte { return pack.Text(b, "some text") },
		"Text ''":  func(b []byte) []byte { return pack.Text(b, "") },
		"Text 300": func(b []byte) []byte { return pack.Text(b, anyBytes(300)) },
	}
	for name, put := range puts {
		for _, head := range heads {
			for _, room := range []int{0, 1, 2, 9, 10, 11, 400} {
				b := spared(head, strings.Repeat("#", room))
				before := all(b)
				first := put(b)
				told := string(first)
				second := put(b)
				if all(b) != before || len(b) != len(head) {
					t.Errorf("R2: %s behind %x with room for %d has changed it", name, head, room)
				}
				scrub(second)
				scrub(b)
				if string(first) != told {
					t.Errorf("R2: %s behind %x with room for %d is no new memory", name, head, room)
				}
			}
		}
	}
}

// TestReadIsNew: what is read, with its spare room, is not changed, and the answer shares nothing with it.
func TestReadIsNew(t *testing.T) {
	for _, tail := range append(tails, anyBytes(300)) {
		for _, room := range []int{0, 1, 50} {
			fill := strings.Repeat("#", room)
			b := spared("\xd8\x04"+tail, fill)
			before := all(b)
			_, rest, _ := pack.ReadInt(b)
			restIsNew(t, "ReadInt", b, before, rest, tail)

			b = spared("\x0ctext\xff\x00"+tail, fill)
			before = all(b)
			s, rest, _ := pack.ReadText(b)
			restIsNew(t, "ReadText", b, before, rest, tail)
			if s != "text\xff\x00" {
				t.Errorf("R2: ReadText: the text is no new memory: %x", s)
			}
		}
	}
}

// restIsNew turns first what is behind, then what was handed in, and holds the other one against what it was.
func restIsNew(t *testing.T, call string, b []byte, before string, rest []byte, tail string) {
	t.Helper()
	if all(b) != before {
		t.Errorf("R2: %s has changed what it was given: %x, was %x", call, all(b), before)
	}
	scrub(rest)
	if all(b) != before {
		t.Errorf("R2: %s: what is behind shares memory with what was given", call)
	}
	scrub(rest)
	scrub(b)
	if string(rest) != tail {
		t.Errorf("R2: %s: what is behind is no new memory: %x, want %x", call, rest, tail)
	}
}
