package slab_test

import (
	"math"
	"strings"
	"testing"

	"pyx/slab"
)

const most = 65536

// holds holds what is there, all of it; the slab is not dead.
func holds(t *testing.T, promise string, s *slab.Slab, want string) {
	t.Helper()
	if b, ok := s.Read(0, s.Size()); !ok || string(b) != want {
		t.Errorf("%s: %q is there, %t, want %q", promise, b, ok, want)
	}
}

// writes holds what a Write answers, and how many there are behind it.
func writes(t *testing.T, promise string, s *slab.Slab, at int, b string, want bool, count int) {
	t.Helper()
	if ok := s.Write(at, []byte(b)); ok != want {
		t.Errorf("%s: Write(%d, %q) = %t", promise, at, b, ok)
	}
	if n := s.Writes(); n != count {
		t.Errorf("%s: Writes() = %d behind Write(%d, %q), want %d", promise, n, at, b, count)
	}
}

// filled is a slab with s in it; one Write was.
func filled(t *testing.T, s string) *slab.Slab {
	t.Helper()
	d := slab.New(len(s))
	writes(t, "6.1", d, 0, s, true, 1)
	return d
}

func TestExample(t *testing.T) {
	s := slab.New(2)
	s.Cut(0, 1)
	if s.Write(0, []byte{7, 8}) {
		t.Error("6.2: the torn Write is true")
	}
	s.Revive()
	holds(t, "6.2", s, "\x07\x00")
}

func TestNew(t *testing.T) {
	cases := []struct{ n, size int }{
		{math.MinInt, 1}, {-most, 1}, {-1, 1}, {0, 1}, {1, 1}, {2, 2}, {1200, 1200},
		{most - 1, most - 1}, {most, most}, {most + 1, most}, {2 * most, most}, {math.MaxInt, most},
	}
	for _, c := range cases {
		s := slab.New(c.n)
		if s.Size() != c.size || s.Writes() != 0 || s.Dead() {
			t.Errorf("6.1: New(%d): Size %d, Writes %d, Dead %t, want Size %d", c.n, s.Size(), s.Writes(), s.Dead(), c.size)
		}
		b, ok := s.Read(0, c.size)
		if !ok || string(b) != strings.Repeat("\x00", c.size) {
			t.Errorf("6.1: New(%d) is not %d bytes of 0", c.n, c.size)
		}
		if _, ok := s.Read(0, c.size+1); ok {
			t.Errorf("6.1: New(%d) has more than %d bytes", c.n, c.size)
		}
	}
}

// outside are places and counts that are not all in six bytes.
var outside = []struct{ at, n int }{
	{-1, 0}, {-1, 1}, {-1, 7}, {-6, 6}, {0, 7}, {1, 6}, {5, 2}, {6, 1}, {7, 0}, {7, -1}, {8, -2}, {3, -1}, {0, -1}, {6, -6}, {6, -1},
	{math.MaxInt, 0}, {math.MaxInt, 1}, {math.MaxInt, 6}, {math.MaxInt, math.MaxInt}, {math.MaxInt - 5, 6},
	{0, math.MaxInt}, {1, math.MaxInt}, {5, math.MaxInt}, {6, math.MaxInt}, {6, math.MaxInt - 5},
	{math.MinInt, 0}, {math.MinInt, 1}, {math.MinInt, math.MaxInt}, {math.MinInt, math.MinInt}, {math.MaxInt, math.MinInt},
	{0, math.MinInt}, {1, math.MinInt}, {6, math.MinInt}, {-1, math.MinInt}, {-1, math.MaxInt}, {most, 1}, {1 << 32, 0}, {1 << 32, 1}, {0, 1 << 32},
}

func TestRead(t *testing.T) {
	s := filled(t, "abcdef")
	for at := range 7 {
		for n := range 7 - at {
			if b, ok := s.Read(at, n); !ok || string(b) != "abcdef"[at:at+n] {
				t.Errorf("6.1: Read(%d, %d) = %q, %t", at, n, b, ok)
			}
		}
	}
	for _, c := range outside {
		if b, ok := s.Read(c.at, c.n); ok || len(b) != 0 {
			t.Errorf("6.1: Read(%d, %d) = %q, %t", c.at, c.n, b, ok)
		}
	}
	holds(t, "6.1", s, "abcdef")
	if s.Writes() != 1 {
		t.Errorf("6.1: Writes() = %d behind Reads", s.Writes())
	}
}

func TestWrite(t *testing.T) {
	for at := range 7 {
		for n := range 7 - at {
			s := filled(t, "abcdef")
			writes(t, "6.1", s, at, "123456"[:n], true, 2)
			holds(t, "6.1", s, "abcdef"[:at]+"123456"[:n]+"abcdef"[at+n:])
		}
	}
}

func TestWriteOutside(t *testing.T) {
	s := filled(t, "abcdef")
	for _, c := range outside {
		if c.n >= 0 && c.n <= 7 {
			writes(t, "6.1", s, c.at, strings.Repeat("#", c.n), false, 1)
			holds(t, "6.1", s, "abcdef")
		}
	}
	writes(t, "6.1", s, 0, strings.Repeat("#", 2*most), false, 1)
	holds(t, "6.1", s, "abcdef")
}

// TestWriteNil: no bytes, at both ends; it is a Write.
func TestWriteNil(t *testing.T) {
	s := filled(t, "abcdef")
	if !s.Write(0, nil) || !s.Write(6, nil) || s.Writes() != 3 {
		t.Errorf("6.1: Write of nil: %d", s.Writes())
	}
	if s.Write(-1, nil) || s.Write(7, nil) || s.Writes() != 3 {
		t.Errorf("6.1: Write of nil, outside: %d", s.Writes())
	}
	holds(t, "6.1", s, "abcdef")
}

// TestEndsOfMost: the greatest one is there to its last byte.
func TestEndsOfMost(t *testing.T) {
	s := slab.New(math.MaxInt)
	writes(t, "6.1", s, most-1, "z", true, 1)
	writes(t, "6.1", s, 0, "a", true, 2)
	writes(t, "6.1", s, most-1, "zz", false, 2)
	writes(t, "6.1", s, most, "z", false, 2)
	holds(t, "6.1", s, "a"+strings.Repeat("\x00", most-2)+"z")
	whole := strings.Repeat("0123456789abcdef", most/16)
	writes(t, "6.1", s, 0, whole, true, 3)
	holds(t, "6.1", s, whole)
}

// spoil turns each byte of b and of its spare room.
func spoil(b []byte) {
	room := b[:cap(b)]
	for i := range room {
		room[i] ^= 0x55
	}
}

// TestReadIsNew: an answer, and its spare room, is of no slab and of no other answer.
func TestReadIsNew(t *testing.T) {
	s := filled(t, "abcdef")
	for at := range 7 {
		for n := range 7 - at {
			first, _ := s.Read(at, n)
			second, _ := s.Read(at, n)
			spoil(second)
			if string(first) != "abcdef"[at:at+n] {
				t.Errorf("R2: two of Read(%d, %d) share memory", at, n)
			}
			holds(t, "R2", s, "abcdef")
		}
	}
	before, _ := s.Read(0, 6)
	writes(t, "R2", s, 0, "ABCDEF", true, 2)
	if string(before) != "abcdef" {
		t.Errorf("R2: a Write changes what was read: %q", before)
	}
}

// TestWriteKeepsNothing: a change of b behind its Write, torn or not, does not reach the slab.
func TestWriteKeepsNothing(t *testing.T) {
	for at := range 3 {
		for _, torn := range []int{-1, 2, 4} {
			s := filled(t, "abcdef")
			if torn >= 0 {
				s.Cut(0, torn)
			}
			b := []byte("1234")
			s.Write(at, b)
			s.Revive()
			there, _ := s.Read(0, 6)
			spoil(b)
			holds(t, "R2", s, string(there))
		}
	}
	s := slab.New(3)
	b := []byte("xyz")
	s.Write(0, b)
	s.Write(1, []byte("q"))
	if string(b) != "xyz" {
		t.Errorf("R2: a later Write reaches what was written: %q", b)
	}
}

// TestWriteLeaves: b and its spare room stay, and what stands in that room is not written, torn or not.
func TestWriteLeaves(t *testing.T) {
	for length := range 5 {
		for _, torn := range []int{-1, 0, 1, length, length + 1, 8} {
			s := filled(t, "abcdefgh")
			if torn >= 0 {
				s.Cut(0, torn)
			}
			b := []byte("12345678")[:length]
			s.Write(1, b)
			if string(b[:cap(b)])[:8] != "12345678" {
				t.Errorf("R2: Write, torn at %d, has changed its bytes: %q", torn, b[:cap(b)])
			}
			s.Revive()
			there := length
			if torn >= 0 {
				there = min(torn, length)
			}
			holds(t, "6.2", s, "a"+"12345678"[:there]+"abcdefgh"[1+there:])
		}
	}
}

// TestWrites: behind each kind of Write.
func TestWrites(t *testing.T) {
	s := slab.New(4)
	writes(t, "6.1", s, 0, "abcd", true, 1)
	writes(t, "6.1", s, 0, "abcd", true, 2)
	writes(t, "6.1", s, 4, "", true, 3)
	writes(t, "6.1", s, 4, "a", false, 3)
	writes(t, "6.1", s, -1, "", false, 3)
	s.Cut(0, 0)
	writes(t, "6.1", s, 0, "abcde", false, 3)
	writes(t, "6.1", s, 0, "wxyz", false, 4)
	writes(t, "6.1", s, 0, "wxyz", false, 4)
	writes(t, "6.1", s, 0, "", false, 4)
	writes(t, "6.1", s, 9, "", false, 4)
	s.Revive()
	if s.Writes() != 4 {
		t.Errorf("6.1: Writes() = %d behind Revive", s.Writes())
	}
	writes(t, "6.1", s, 0, "1", true, 5)
	holds(t, "6.1", s, "1bcd")
}

// TestCutBehind: n more Writes are well, and the next one is torn.
func TestCutBehind(t *testing.T) {
	for n := range 12 {
		s := filled(t, "......")
		s.Cut(n, 2)
		for k := range n {
			writes(t, "6.2", s, 0, strings.Repeat(string(rune('a'+k)), 6), true, 2+k)
			if s.Dead() {
				t.Errorf("6.2: Cut(%d, 2): dead behind %d", n, k+1)
			}
		}
		before, _ := s.Read(2, 4)
		writes(t, "6.2", s, 0, "######", false, 2+n)
		if !s.Dead() {
			t.Errorf("6.2: Cut(%d, 2): not dead behind the torn one", n)
		}
		s.Revive()
		holds(t, "6.2", s, "##"+string(before))
	}
}

// TestTorn: of each number of bytes, at each end and between.
func TestTorn(t *testing.T) {
	for at := range 7 {
		for n := range 7 - at {
			for _, torn := range []int{math.MinInt, -7, -1, 0, 1, 2, n - 1, n, n + 1, 6, 7, 99, most, math.MaxInt} {
				s := filled(t, "abcdef")
				s.Cut(0, torn)
				writes(t, "6.2", s, at, "123456"[:n], false, 2)
				if !s.Dead() {
					t.Errorf("6.2: torn at %d, of %d: not dead", torn, n)
				}
				s.Revive()
				there := min(max(torn, 0), n)
				holds(t, "6.2", s, "abcdef"[:at]+"123456"[:there]+"abcdef"[at+there:])
			}
		}
	}
}

// TestTornNothing: a Write of no bytes is torn as others are.
func TestTornNothing(t *testing.T) {
	for _, at := range []int{0, 1, 3} {
		for _, torn := range []int{-1, 0, 1, 9} {
			s := filled(t, "abc")
			s.Cut(1, torn)
			writes(t, "6.2", s, at, "", true, 2)
			if s.Dead() {
				t.Error("6.2: dead one too early")
			}
			if s.Write(at, nil) || !s.Dead() || s.Writes() != 3 {
				t.Errorf("6.2: no bytes at %d: Dead %t, Writes %d", at, s.Dead(), s.Writes())
			}
			s.Revive()
			holds(t, "6.2", s, "abc")
		}
	}
}

// TestCutAgain: the last Cut holds, with its own number and its own torn, counted from it on.
func TestCutAgain(t *testing.T) {
	s := slab.New(3)
	s.Cut(1, 3)
	writes(t, "6.2", s, 0, "abc", true, 1)
	s.Cut(2, 1)
	writes(t, "6.2", s, 0, "def", true, 2)
	writes(t, "6.2", s, 0, "ghi", true, 3)
	writes(t, "6.2", s, 0, "jkl", false, 4)
	s.Revive()
	holds(t, "6.2", s, "jhi")

	s.Cut(5, 0)
	s.Cut(0, 2)
	writes(t, "6.2", s, 0, "mno", false, 5)
	s.Revive()
	holds(t, "6.2", s, "mni")
}

// TestCutNoMore: below 0, with and without a Cut ahead.
func TestCutNoMore(t *testing.T) {
	for _, n := range []int{-1, -2, math.MinInt} {
		s := slab.New(2)
		count := 0
		for _, first := range []int{-1, 0, 1, 2, 7} {
			s.Cut(first, 1)
			s.Cut(n, 1)
			for range 9 {
				count++
				writes(t, "6.2", s, 0, "ab", true, count)
			}
		}
		s.Cut(2, 0)
		writes(t, "6.2", s, 0, "cd", true, count+1)
		s.Cut(n, 0)
		for k := range 9 {
			writes(t, "6.2", s, 0, "ef", true, count+2+k)
		}
		holds(t, "6.2", s, "ef")
	}
}

// TestCutFar: a cut that is very far is none for now.
func TestCutFar(t *testing.T) {
	s := slab.New(1)
	s.Cut(math.MaxInt, 0)
	for k := range 100 {
		writes(t, "6.2", s, 0, "a", true, k+1)
	}
	if s.Dead() {
		t.Error("6.2: dead")
	}
}

// TestCutNotUsedUp: neither a Write that is not all there nor a Read is one of those that the cut counts.
func TestCutNotUsedUp(t *testing.T) {
	s := filled(t, "abc")
	s.Cut(1, 1)
	for range 5 {
		writes(t, "6.2", s, 1, "###", false, 1)
		writes(t, "6.2", s, -1, "", false, 1)
		holds(t, "6.2", s, "abc")
	}
	writes(t, "6.2", s, 0, "def", true, 2)
	for range 5 {
		writes(t, "6.2", s, 3, "#", false, 2)
		writes(t, "6.2", s, 4, "", false, 2)
		holds(t, "6.2", s, "def")
	}
	if s.Dead() {
		t.Error("6.2: dead of a Write that is not all there")
	}
	writes(t, "6.2", s, 0, "ghi", false, 3)
	if !s.Dead() {
		t.Error("6.2: not dead")
	}
	s.Revive()
	holds(t, "6.2", s, "gef")
}

// TestDead: nothing is read, nothing is written, until Revive.
func TestDead(t *testing.T) {
	s := filled(t, "abc")
	s.Cut(0, 1)
	writes(t, "6.2", s, 0, "def", false, 2)
	for at := -1; at <= 4; at++ {
		for n := range 4 {
			if b, ok := s.Read(at, n); ok || len(b) != 0 {
				t.Errorf("6.1: dead: Read(%d, %d) = %q, %t", at, n, b, ok)
			}
			writes(t, "6.1", s, at, "123"[:n], false, 2)
			if !s.Dead() || s.Size() != 3 {
				t.Errorf("6.2: Dead %t, Size %d", s.Dead(), s.Size())
			}
		}
	}
	if b, ok := s.Read(0, -1); ok || len(b) != 0 {
		t.Errorf("6.1: dead: Read(0, -1) = %q, %t", b, ok)
	}
	s.Revive()
	holds(t, "6.2", s, "dbc")
}

// TestCutDead: no Cut brings the power back, and none outlasts Revive.
func TestCutDead(t *testing.T) {
	for _, n := range []int{math.MinInt, -1, 0, 1, 2, math.MaxInt} {
		s := filled(t, "abc")
		s.Cut(0, 1)
		writes(t, "6.2", s, 0, "def", false, 2)
		s.Cut(n, 2)
		if !s.Dead() {
			t.Errorf("6.2: Cut(%d, 2) has revived it", n)
		}
		writes(t, "6.2", s, 0, "ghi", false, 2)
		if _, ok := s.Read(0, 1); ok {
			t.Errorf("6.2: Cut(%d, 2): it is read while it is dead", n)
		}
		s.Revive()
		holds(t, "6.2", s, "dbc")
		for k := range 5 {
			writes(t, "6.2", s, 0, "jkl", true, 3+k)
		}
		holds(t, "6.2", s, "jkl")
	}
}

// TestRevive: of one that is dead, cut and not dead yet, neither of them; and a Cut behind it holds.
func TestRevive(t *testing.T) {
	cases := []struct {
		name  string
		ahead func(s *slab.Slab)
		want  string
		count int
	}{
		{"neither", func(s *slab.Slab) {}, "abc", 1},
		{"cut at once", func(s *slab.Slab) { s.Cut(0, 1) }, "abc", 1},
		{"cut later", func(s *slab.Slab) { s.Cut(2, 1) }, "abc", 1},
		{"cut soon", func(s *slab.Slab) { s.Cut(1, 1); s.Write(0, []byte("x")) }, "xbc", 2},
		{"dead", func(s *slab.Slab) { s.Cut(0, 2); s.Write(0, []byte("xyz")) }, "xyc", 2},
		{"dead, revived", func(s *slab.Slab) { s.Cut(0, 2); s.Write(0, []byte("xyz")); s.Revive() }, "xyc", 2},
	}
	for _, c := range cases {
		s := filled(t, "abc")
		c.ahead(s)
		s.Revive()
		if s.Dead() || s.Writes() != c.count || s.Size() != 3 {
			t.Errorf("6.2: %s: Dead %t, Writes %d, Size %d", c.name, s.Dead(), s.Writes(), s.Size())
		}
		holds(t, "6.2, "+c.name, s, c.want)
		for k := range 5 {
			writes(t, "6.2, "+c.name, s, 0, "123", true, c.count+1+k)
		}
		s.Cut(1, 1)
		writes(t, "6.2, "+c.name, s, 0, "456", true, c.count+6)
		writes(t, "6.2, "+c.name, s, 0, "789", false, c.count+7)
		s.Revive()
		holds(t, "6.2, "+c.name, s, "756")
	}
}

// TestTwo: what one is told is nothing to the other.
func TestTwo(t *testing.T) {
	a, b := slab.New(3), slab.New(3)
	writes(t, "R7", a, 0, "abc", true, 1)
	if b.Writes() != 0 {
		t.Error("R7: Writes of the other one")
	}
	holds(t, "R7", b, "\x00\x00\x00")
	a.Cut(0, 1)
	writes(t, "R7", b, 0, "def", true, 1)
	writes(t, "R7", a, 0, "ghi", false, 2)
	if !a.Dead() || b.Dead() {
		t.Errorf("R7: Dead %t, %t", a.Dead(), b.Dead())
	}
	b.Cut(0, 2)
	b.Revive()
	if !a.Dead() {
		t.Error("R7: revived with the other one")
	}
	writes(t, "R7", b, 0, "jkl", true, 2)
	b.Cut(0, 2)
	a.Revive()
	writes(t, "R7", b, 0, "mno", false, 3)
	holds(t, "R7", a, "gbc")
	b.Revive()
	holds(t, "R7", b, "mnl")
}

// TestNil: a nil slab answers nothing, and no call of it panics.
func TestNil(t *testing.T) {
	var s *slab.Slab
	for range 2 {
		if s.Size() != 0 || s.Dead() || s.Writes() != 0 {
			t.Errorf("R1: nil: Size %d, Dead %t, Writes %d", s.Size(), s.Dead(), s.Writes())
		}
		for _, n := range []int{-1, 0, 1, math.MaxInt} {
			if b, ok := s.Read(0, n); ok || len(b) != 0 {
				t.Errorf("R1: nil: Read(0, %d) = %q, %t", n, b, ok)
			}
		}
		if s.Write(0, nil) || s.Write(0, []byte("a")) || s.Write(-1, nil) {
			t.Error("R1: nil: Write")
		}
		s.Cut(0, 0)
		s.Cut(-1, 0)
		s.Revive()
	}
}
