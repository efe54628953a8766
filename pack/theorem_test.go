package pack_test

import (
	"encoding/binary"
	"math/rand/v2"
	"testing"

	"pyx/api"
	"pyx/pack"
)

// drawn is a number of any length and sign.
func drawn(r *rand.Rand) int {
	n := int(r.Uint64() >> uint(r.IntN(64)))
	if r.IntN(2) == 1 {
		return -n
	}
	return n
}

func drawnBytes(r *rand.Rand, length int) []byte {
	b := make([]byte, length)
	for i := range b {
		b[i] = byte(r.Uint32())
	}
	return b
}

// holdNumber holds a number against a library that shares no code with pack, and against its own way back.
func holdNumber(t *testing.T, n int, tail []byte) {
	t.Helper()
	own := pack.Int(nil, n)
	if want := binary.AppendVarint(nil, int64(n)); string(own) != string(want) {
		t.Errorf("4.1: Int(%d) = %x, want %x", n, own, want)
	}
	back, rest, e := pack.ReadInt(append(own, tail...))
	if back != n || string(rest) != string(tail) || e != api.OK {
		t.Errorf("4.2: %d, with %x behind it, is read as %d, %x, %d", n, tail, back, rest, e)
	}
}

// TestNumbersSame: what is packed is read the same, whatever is behind it.
func TestNumbersSame(t *testing.T) {
	r := rand.New(rand.NewPCG(9, 10))
	for n := -20000; n <= 20000; n++ {
		holdNumber(t, n, drawnBytes(r, n&3))
	}
	for k := range 64 {
		for by := -3; by <= 3; by++ {
			holdNumber(t, 1<<k+by, nil)
			holdNumber(t, -1<<k+by, drawnBytes(r, 3))
		}
	}
	for range 100000 {
		holdNumber(t, drawn(r), drawnBytes(r, r.IntN(4)))
	}
}

// holdBytes holds that b is read as that library reads it (which has no objection to a last group of 0),
// and that what is read is packed to the bytes that it was read of: of no number are there two forms.
func holdBytes(t *testing.T, b []byte) {
	t.Helper()
	want, size := binary.Varint(b)
	n, rest, e := pack.ReadInt(b)
	if size <= 0 || size > 1 && b[size-1] == 0 {
		if n != 0 || len(rest) != 0 || e != api.ErrForm {
			t.Errorf("4.1: ReadInt(%x) = %d, %x, %d, want ErrForm", b, n, rest, e)
		}
		return
	}
	if n != int(want) || string(rest) != string(b[size:]) || e != api.OK {
		t.Errorf("4.1: ReadInt(%x) = %d, %x, %d, want %d", b, n, rest, e, want)
	}
	if form := pack.Int(nil, n); string(form) != string(b[:size]) {
		t.Errorf("4.2: ReadInt(%x) is %d, that is packed as %x", b, n, form)
	}
	// Of its own bytes alone: the answer is the same without those behind.
	if alone, none, e := pack.ReadInt(b[:size]); alone != n || len(none) != 0 || e != api.OK {
		t.Errorf("4.2: ReadInt(%x) = %d, %x, %d, want %d", b[:size], alone, none, e, n)
	}
}

// TestBytesShort: all inputs of at most two bytes, and those of three that begin like a longer number.
func TestBytesShort(t *testing.T) {
	holdBytes(t, nil)
	for x := range 256 {
		holdBytes(t, []byte{byte(x)})
		for y := range 256 {
			holdBytes(t, []byte{byte(x), byte(y)})
		}
	}
	for x := 128; x < 256; x += 7 {
		for y := 128; y < 256; y++ {
			for z := range 256 {
				holdBytes(t, []byte{byte(x), byte(y), byte(z)})
			}
		}
	}
}

// TestBytesDrawn: inputs of up to twelve bytes, of which most say that more follow; each seed stands.
func TestBytesDrawn(t *testing.T) {
	r := rand.New(rand.NewPCG(11, 12))
	for range 200000 {
		b := drawnBytes(r, r.IntN(13))
		more := r.IntN(13)
		for i := range b[:min(more, len(b))] {
			b[i] |= 128
		}
		if more < len(b) && r.IntN(2) == 1 {
			b[more] = byte(r.IntN(3))
		}
		holdBytes(t, b)
	}
}

// TestInRow: numbers and texts one behind the other are read the same, in order, and nothing is left.
func TestInRow(t *testing.T) {
	r := rand.New(rand.NewPCG(13, 14))
	for range 2000 {
		count := r.IntN(20)
		var b []byte
		numbers, texts := make([]int, count), make([]string, count)
		for i := range count {
			// Of each place either one: a number has no text, a text the number 0.
			if r.IntN(2) == 1 {
				texts[i] = "t" + string(drawnBytes(r, r.IntN(200)))
				b = pack.Text(b, texts[i])
			} else {
				numbers[i] = drawn(r)
				b = pack.Int(b, numbers[i])
			}
		}
		holdRow(t, b, numbers, texts)
	}
}

func holdRow(t *testing.T, b []byte, numbers []int, texts []string) {
	t.Helper()
	for i := range numbers {
		var n int
		var s string
		var e api.Errno
		if texts[i] == "" {
			n, b, e = pack.ReadInt(b)
		} else {
			s, b, e = pack.ReadText(b)
		}
		if n != numbers[i] || s != texts[i] || e != api.OK {
			t.Fatalf("4.2: place %d of a row: %d, %x, %d, want %d, %x", i, n, s, e, numbers[i], texts[i])
		}
	}
	if len(b) != 0 {
		t.Errorf("4.2: %x is left behind a row", b)
	}
}

// TestTextsSame: texts of any bytes and of each short length are read the same, whatever is behind them.
func TestTextsSame(t *testing.T) {
	r := rand.New(rand.NewPCG(15, 16))
	for length := range 600 {
		s, tail := string(drawnBytes(r, length)), drawnBytes(r, r.IntN(5))
		back, rest, e := pack.ReadText(append(pack.Text(nil, s), tail...))
		if back != s || string(rest) != string(tail) || e != api.OK {
			t.Errorf("4.2: a text of %d bytes is read as %x, %x, %d", length, back, rest, e)
		}
	}
}
