package mark_test

import (
	"math"
	"strings"
	"testing"

	"pyx/mark"
)

const factor = 0x9e3779b97f4a7c15

// steps: what is wanted was reckoned apart from the program, with numbers of any length.
var steps = []struct {
	h    uint64
	c    byte
	want uint64
}{
	{0, 0, 0},
	{0, 1, factor},
	{0, 2, 0x3c6ef372fe94f82a},
	{0, 128, 0x1bbcdcbfa53e0a80},
	{0, 255, 0x99423fc5cb3198eb},
	{1, 0, 0x6ef372fe94f82a00},
	// The bit at 54 goes to the top; those at 55 to 63 leave there and come in at 0 to 8.
	{1 << 54, 0, 0x8000000000000000},
	{1 << 55, 0, factor},
	{1 << 56, 0, 0x3c6ef372fe94f82a},
	{1 << 62, 0, 0x1bbcdcbfa53e0a80},
	{1 << 63, 0, 0x3779b97f4a7c1500},
	// What comes in below and the byte take each other out, but for the top bit: that one comes in above the byte.
	{1 << 55, 1, 0},
	{0xff << 55, 255, 0},
	{0xff << 55, 254, factor},
	{0xff << 55, 0, 0x99423fc5cb3198eb},
	{1 << 63, 255, 0xd0bbf94515adadeb},
	{math.MaxUint64 - 1, 0, 0xf2d51347ebbd59eb},
	{math.MaxUint64, 0, 0x61c8864680b583eb},
	{math.MaxUint64, 1, 0xc3910c8d016b07d6},
	{math.MaxUint64, 255, 0xc8864680b583eb00},
	{0x0102030405060708, 0x90, 0x96a2f875056213fa},
}

// words have their bits at the ends, in the middle, everywhere and nowhere.
var words = []uint64{
	0, 1, 2, 255, 256, 511, 512, 1<<54 - 1, 1 << 54, 1<<55 - 1, 1 << 55, 1 << 56, 1 << 62, 1<<63 - 1, 1 << 63, 1<<63 | 1, 0x1ff << 55,
	0x0102030405060708, 0x8040201008040201, 0xaaaaaaaaaaaaaaaa, 0x5555555555555555, factor, math.MaxUint64 - 1, math.MaxUint64,
}

// everyByte is 0, 1 and so on to 255.
func everyByte() string {
	b := make([]byte, 256)
	for i := range b {
		b[i] = byte(i)
	}
	return string(b)
}

// sums were reckoned as the steps were.
var sums = []struct {
	seed uint64
	b    string
	want uint64
}{
	{0, "", 0x99423fc5cb3198eb},
	{1, "", 0x0835b2c46029c2eb},
	{7, "", 0xa1ea64bbddfabeeb},
	{1 << 63, "", 0xd0bbf94515adadeb},
	{math.MaxUint64, "", 0xc8864680b583eb00},
	{0, "\xff", 0xbbd189fe5bdfffd1},
	{0, "a", 0x5518fcef8cc0650d},
	{0, "ab", 0x30030fffe6b3fd8f},
	{0, "ba", 0x1d8296aca1fc8a62},
	{99, "a record of some bytes", 0xf77a998bb8afe563},
	{0, everyByte(), 0x00ad1c044b3e6638},
	{math.MaxUint64, everyByte(), 0x8ceecc56dae3044c},
	// A Step of 0 by 0 is 0: bytes of 0 behind a seed of 0 leave it as it is.
	{0, "\x00", 0x99423fc5cb3198eb},
	{0, "\x00\x00", 0x99423fc5cb3198eb},
}

func TestExample(t *testing.T) {
	if h := mark.Step(0, 1); h != 0x9e3779b97f4a7c15 {
		t.Errorf("5.1: Step(0, 1) = %x", h)
	}
}

func TestStep(t *testing.T) {
	for _, s := range steps {
		if h := mark.Step(s.h, s.c); h != s.want {
			t.Errorf("5.1: Step(%x, %d) = %x, want %x", s.h, s.c, h, s.want)
		}
	}
}

// TestSum: of nil, of no bytes, of one, of many.
func TestSum(t *testing.T) {
	for _, s := range sums {
		if h := mark.Sum(s.seed, []byte(s.b)); h != s.want {
			t.Errorf("5.1: Sum(%x, %x) = %x, want %x", s.seed, s.b, h, s.want)
		}
	}
	for _, seed := range words {
		want := mark.Step(seed, 255)
		if h := mark.Sum(seed, nil); h != want {
			t.Errorf("5.1: Sum(%x, nil) = %x, want %x", seed, h, want)
		}
		if h := mark.Sum(seed, []byte{}); h != want {
			t.Errorf("5.1: Sum(%x, no bytes) = %x, want %x", seed, h, want)
		}
		for c := range 256 {
			want := mark.Step(mark.Step(seed, byte(c)), 255)
			if h := mark.Sum(seed, []byte{byte(c)}); h != want {
				t.Errorf("5.1: Sum(%x, %x) = %x, want %x", seed, c, h, want)
			}
		}
	}
}

// TestSumParts: of two parts, the second with what the first came to as its seed: each part has its own last Step.
func TestSumParts(t *testing.T) {
	s := everyByte() + "and some text"
	for _, seed := range words {
		for k := range len(s) + 1 {
			whole := mark.Sum(seed, []byte(s[:k]+"\xff"+s[k:]))
			if h := mark.Sum(mark.Sum(seed, []byte(s[:k])), []byte(s[k:])); h != whole {
				t.Errorf("5.1: Sum of two parts, of %d bytes and %d, of %x = %x, want %x", k, len(s)-k, seed, h, whole)
			}
		}
	}
}

// TestSumLong: one Step a byte, in order, however many there are.
func TestSumLong(t *testing.T) {
	b := []byte(strings.Repeat(everyByte(), 1<<12))
	h := uint64(math.MaxUint64)
	for _, c := range b {
		h = mark.Step(h, c)
	}
	if sum := mark.Sum(math.MaxUint64, b); sum != mark.Step(h, 255) {
		t.Errorf("5.1: Sum of %d bytes = %x, want %x", len(b), sum, mark.Step(h, 255))
	}
}

// TestSumLeaves: b and its spare room are not changed, and what stands in that room is no part of b.
func TestSumLeaves(t *testing.T) {
	for _, s := range []string{"", "\x00", "\xff", "some bytes", everyByte()} {
		for _, fill := range []string{"", "#", "\x00\xff", strings.Repeat("#", 400)} {
			b := []byte(s + fill)[:len(s)]
			before := string(b[:cap(b)])
			first, second := mark.Sum(5, b), mark.Sum(5, b)
			if string(b[:cap(b)]) != before {
				t.Errorf("R2: Sum has changed %x, with %d spare", s, len(fill))
			}
			if want := mark.Sum(5, []byte(s)); first != want || second != want {
				t.Errorf("5.1: Sum(5, %x), with %d spare, = %x, then %x, want %x", s, len(fill), first, second, want)
			}
		}
	}
}

func TestBytes(t *testing.T) {
	cases := []struct {
		h    uint64
		want string
	}{
		{0, "\x00\x00\x00\x00\x00\x00\x00\x00"},
		{1, "\x00\x00\x00\x00\x00\x00\x00\x01"},
		{255, "\x00\x00\x00\x00\x00\x00\x00\xff"},
		{256, "\x00\x00\x00\x00\x00\x00\x01\x00"},
		{1 << 63, "\x80\x00\x00\x00\x00\x00\x00\x00"},
		{0xff << 56, "\xff\x00\x00\x00\x00\x00\x00\x00"},
		{0x0102030405060708, "\x01\x02\x03\x04\x05\x06\x07\x08"},
		{0xfedcba9876543210, "\xfe\xdc\xba\x98\x76\x54\x32\x10"},
		{factor, "\x9e\x37\x79\xb9\x7f\x4a\x7c\x15"},
		{math.MaxUint64, "\xff\xff\xff\xff\xff\xff\xff\xff"},
	}
	for _, c := range cases {
		if b := mark.Bytes(c.h); string(b) != c.want {
			t.Errorf("5.1: Bytes(%x) = %x, want %x", c.h, b, c.want)
		}
	}
}

// TestBytesIsNew: an answer, and its spare room, is of no other one.
func TestBytesIsNew(t *testing.T) {
	for _, h := range words {
		first := mark.Bytes(h)
		told := string(first)
		second := mark.Bytes(h)
		room := second[:cap(second)]
		for i := range room {
			room[i] ^= 0x55
		}
		if string(first) != told || string(mark.Bytes(h)) != told {
			t.Errorf("R2: Bytes(%x) is no new memory", h)
		}
	}
}
