package label_test

import (
	"math"
	"slices"
	"strconv"
	"strings"
	"testing"

	"pyx/api"
	"pyx/label"
)

// l is the label of that Set and Level.
func l(set uint64, level int) api.Label {
	return api.Label{Set: set, Level: level}
}

// sets are Sets with members, with bits from MaxEnt on, with both, and with none.
var sets = []uint64{
	0, 1, 2, 5, 6, 127, 128, 129, 170, 254, 255, 256, 257, 511, 512, 1 << 9, 1 << 15, 1 << 16, 1<<31 | 128, 1 << 32, 1<<32 - 1, 1 << 62, 1 << 63,
	1<<63 | 1, 1<<63 | 128, 3 << 62, math.MaxUint64 - 255, math.MaxUint64 - 1, math.MaxUint64,
}

// levels are those that may be, those beside them, and the ends.
var levels = []int{
	math.MinInt, math.MinInt + 1, -1 << 32, -256, -4, -2, -1, 0, 1, 2, 3, 4, 5, 255, 256, 259, 1 << 32, math.MaxInt - 1, math.MaxInt,
}

// rightLabels are all labels that are right.
func rightLabels() []api.Label {
	var list []api.Label
	for level := range api.MaxLevel + 1 {
		for set := range uint64(256) {
			list = append(list, l(set, level))
		}
	}
	return list
}

// anyLabels are labels that are right and ones that are not.
func anyLabels() []api.Label {
	var list []api.Label
	for _, set := range sets {
		for _, level := range levels {
			list = append(list, l(set, level))
		}
	}
	return list
}

func TestExample(t *testing.T) {
	a := label.Join(label.Of(0, 1), label.Of(2, 0))
	if a != l(5, 1) || !slices.Equal(label.Members(a), []int{0, 2}) {
		t.Errorf("8.1: entities 0, 2, level 1: %+v", a)
	}
	if s := label.Print(a); s != "1:02" {
		t.Errorf("8.2: entities 0, 2, level 1: Print = %q", s)
	}
	if b, e := label.Read("1:02"); b != a || e != api.OK {
		t.Errorf("8.2: Read(1:02) = %+v, %d", b, e)
	}
}

// TestRight: a Set and a Level are each looked at, whatever the other one is.
func TestRight(t *testing.T) {
	rightSets := []uint64{0, 1, 2, 4, 8, 16, 32, 64, 127, 128, 170, 254, 255}
	wrongSets := []uint64{256, 257, 511, 512, 1 << 15, 1 << 16, 1 << 31, 1 << 32, 1<<32 | 1, 1 << 62, 1 << 63, 1<<63 | 1, math.MaxUint64 - 255, math.MaxUint64}
	rightLevels := []int{0, 1, 2, 3}
	wrongLevels := []int{-1, -2, -256, -1 << 32, math.MinInt + 1, math.MinInt, 4, 5, 256, 1 << 32, 1<<32 + 1, math.MaxInt - 1, math.MaxInt}
	for _, set := range append(rightSets, wrongSets...) {
		for _, level := range append(rightLevels, wrongLevels...) {
			want := slices.Contains(rightSets, set) && slices.Contains(rightLevels, level)
			if got := label.Right(l(set, level)); got != want {
				t.Errorf("8.1: Right(%d, %d) = %t", set, level, got)
			}
		}
	}
}

// TestRightBits: all bits below MaxEnt may be there, each one from it on may not.
func TestRightBits(t *testing.T) {
	for k := range 64 {
		for _, more := range []uint64{0, 1, 255} {
			if set := uint64(1)<<uint(k) | more; label.Right(l(set, 2)) != (k < 8) {
				t.Errorf("8.1: Right(%d, 2) = %t", set, k >= 8)
			}
		}
	}
	for set := range uint64(256) {
		if !label.Right(l(set, 3)) {
			t.Errorf("8.1: Right(%d, 3) = false", set)
		}
	}
}

func TestOf(t *testing.T) {
	ents := []struct {
		ent int
		set uint64
	}{
		{0, 1}, {1, 2}, {2, 4}, {3, 8}, {4, 16}, {5, 32}, {6, 64}, {7, 128},
		{-1, 0}, {-2, 0}, {-8, 0}, {-57, 0}, {-64, 0}, {-256, 0}, {-1 << 32, 0}, {math.MinInt + 1, 0}, {math.MinInt, 0},
		{8, 0}, {9, 0}, {31, 0}, {32, 0}, {63, 0}, {64, 0}, {65, 0}, {256, 0}, {1 << 32, 0}, {1<<32 + 1, 0}, {math.MaxInt - 1, 0}, {math.MaxInt, 0},
	}
	levels := []struct{ level, want int }{
		{0, 0}, {1, 1}, {2, 2}, {3, 3},
		{-1, 0}, {-2, 0}, {-1 << 32, 0}, {math.MinInt + 1, 0}, {math.MinInt, 0},
		{4, 3}, {5, 3}, {256, 3}, {257, 3}, {1 << 32, 3}, {1<<32 + 1, 3}, {math.MaxInt - 1, 3}, {math.MaxInt, 3},
	}
	for _, c := range ents {
		for _, d := range levels {
			if a := label.Of(c.ent, d.level); a != l(c.set, d.want) || !label.Right(a) {
				t.Errorf("8.1: Of(%d, %d) = %+v, want Set %d, Level %d", c.ent, d.level, a, c.set, d.want)
			}
		}
	}
}

func TestBelow(t *testing.T) {
	cases := []struct {
		a, b api.Label
		want bool
	}{
		{l(0, 0), l(0, 0), true},
		{l(0, 0), l(255, 3), true},
		{l(255, 3), l(0, 0), false},
		{l(5, 1), l(5, 1), true},
		{l(5, 1), l(5, 2), true},
		{l(5, 2), l(5, 1), false},
		{l(1, 1), l(5, 1), true},
		{l(5, 1), l(1, 1), false},
		{l(1, 0), l(5, 3), true},
		// A higher Level makes up for no entity, and more entities for no Level.
		{l(5, 0), l(1, 3), false},
		{l(1, 2), l(255, 1), false},
		{l(2, 0), l(5, 0), false},
		{l(3, 0), l(6, 0), false},
		// No entity is of all Sets, but its Level counts.
		{l(0, 3), l(0, 2), false},
		{l(0, 3), l(1, 3), true},
		{l(128, 0), l(127, 3), false},
		// Bits from MaxEnt on count as the others do.
		{l(256, 0), l(255, 3), false},
		{l(255, 0), l(256, 3), false},
		{l(256, 0), l(256, 0), true},
		{l(1, 0), l(257, 0), true},
		{l(257, 0), l(1, 0), false},
		{l(1<<63, 0), l(1<<62, 0), false},
		{l(1<<63, 0), l(1<<63|1, 0), true},
		{l(1<<32|1, 0), l(1, 0), false},
		{l(math.MaxUint64, 0), l(math.MaxUint64, 0), true},
		{l(math.MaxUint64, 0), l(math.MaxUint64-1, 0), false},
		{l(math.MaxUint64-1, 0), l(math.MaxUint64, 0), true},
		// So do Levels that may not be.
		{l(1, -1), l(1, 0), true},
		{l(1, 0), l(1, -1), false},
		{l(1, -2), l(1, -1), true},
		{l(1, -1), l(1, -2), false},
		{l(1, 3), l(1, 4), true},
		{l(1, 4), l(1, 3), false},
		{l(1, 5), l(1, 4), false},
		{l(1, math.MinInt), l(1, math.MaxInt), true},
		{l(1, math.MaxInt), l(1, math.MinInt), false},
		{l(1, math.MinInt), l(1, math.MinInt), true},
		{l(1, math.MaxInt), l(1, math.MaxInt-1), false},
		{l(1, math.MaxInt), l(1, 3), false},
		{l(1, 0), l(1, math.MinInt), false},
		{l(1, 1<<32), l(1, 1), false},
	}
	for _, c := range cases {
		if got := label.Below(c.a, c.b); got != c.want {
			t.Errorf("8.1: Below(%+v, %+v) = %t", c.a, c.b, got)
		}
	}
}

func TestJoinMeet(t *testing.T) {
	cases := []struct{ a, b, join, meet api.Label }{
		{l(0, 0), l(0, 0), l(0, 0), l(0, 0)},
		{l(5, 1), l(6, 2), l(7, 2), l(4, 1)},
		{l(5, 1), l(5, 1), l(5, 1), l(5, 1)},
		{l(1, 3), l(2, 0), l(3, 3), l(0, 0)},
		{l(1, 0), l(7, 0), l(7, 0), l(1, 0)},
		{l(0, 2), l(255, 1), l(255, 2), l(0, 1)},
		{l(255, 3), l(0, 0), l(255, 3), l(0, 0)},
		{l(240, 1), l(15, 1), l(255, 1), l(0, 1)},
		// Labels that are not right: bits are kept where they are, Levels as they are.
		{l(256, 0), l(255, 3), l(511, 3), l(0, 0)},
		{l(257, 4), l(257, 5), l(257, 5), l(257, 4)},
		{l(1<<63|1, -1), l(1<<63|2, -2), l(1<<63|3, -1), l(1<<63, -2)},
		{l(1<<63, -1), l(1, 0), l(1<<63|1, 0), l(0, -1)},
		{l(math.MaxUint64, 9), l(0, 3), l(math.MaxUint64, 9), l(0, 3)},
		{l(math.MaxUint64, 4), l(math.MaxUint64, 4), l(math.MaxUint64, 4), l(math.MaxUint64, 4)},
		{l(math.MaxUint64-255, 0), l(255, 0), l(math.MaxUint64, 0), l(0, 0)},
		{l(1, math.MinInt), l(1, math.MaxInt), l(1, math.MaxInt), l(1, math.MinInt)},
		{l(1, math.MinInt), l(1, math.MinInt+1), l(1, math.MinInt+1), l(1, math.MinInt)},
		{l(1, math.MinInt), l(1, -1), l(1, -1), l(1, math.MinInt)},
		{l(1, math.MaxInt), l(1, 4), l(1, math.MaxInt), l(1, 4)},
		{l(3, 1<<32), l(5, 1), l(7, 1<<32), l(1, 1)},
	}
	for _, c := range cases {
		for _, p := range [][2]api.Label{{c.a, c.b}, {c.b, c.a}} {
			if got := label.Join(p[0], p[1]); got != c.join {
				t.Errorf("8.1: Join(%+v, %+v) = %+v, want %+v", p[0], p[1], got, c.join)
			}
			if got := label.Meet(p[0], p[1]); got != c.meet {
				t.Errorf("8.1: Meet(%+v, %+v) = %+v, want %+v", p[0], p[1], got, c.meet)
			}
		}
	}
}

// figures are the digits of the entities of each Set below 2 to the MaxEnt, rising: each has, behind those of the
// Sets without the highest entity, that one. They are made from texts alone.
func figures() []string {
	list := []string{""}
	for _, last := range []string{"0", "1", "2", "3", "4", "5", "6", "7"} {
		for _, ahead := range slices.Clone(list) {
			list = append(list, ahead+last)
		}
	}
	return list
}

// numbers are what the digits tell, one by one.
func numbers(digits string) []int {
	var list []int
	for _, c := range digits {
		n, _ := strconv.Atoi(string(c))
		list = append(list, n)
	}
	return list
}

// TestMembers: of each Set of the eight bits, with bits from MaxEnt on and without, of any Level.
func TestMembers(t *testing.T) {
	for set, digits := range figures() {
		want := numbers(digits)
		for _, high := range []uint64{0, 256, 512, 1 << 16, 1 << 32, 1 << 40, 1 << 62, 1 << 63, math.MaxUint64 - 255} {
			for _, level := range levels {
				a := l(uint64(set)|high, level)
				if got := label.Members(a); !slices.Equal(got, want) {
					t.Errorf("8.1: Members(%+v) = %v, want %v", a, got, want)
				}
			}
		}
	}
	for k := range 64 {
		if got := label.Members(l(1<<uint(k), 0)); len(got) > 0 != (k < 8) || len(got) > 0 && (len(got) > 1 || got[0] != k) {
			t.Errorf("8.1: Members of bit %d alone = %v", k, got)
		}
	}
}

// TestMembersIsNew: an answer, and its spare room, is of no other one.
func TestMembersIsNew(t *testing.T) {
	for set := range uint64(256) {
		first := label.Members(l(set, 1))
		told := slices.Clone(first)
		second := label.Members(l(set, 1))
		room := second[:cap(second)]
		for i := range room {
			room[i] = -7
		}
		if !slices.Equal(first, told) || !slices.Equal(label.Members(l(set, 1)), told) {
			t.Errorf("R2: Members(%d) is no new memory", set)
		}
	}
}

// texts are those that Read reads, with what each one tells, made without Print.
func texts() map[string]api.Label {
	list := map[string]api.Label{}
	for level, head := range []string{"0:", "1:", "2:", "3:"} {
		for set, digits := range figures() {
			list[head+digits] = l(uint64(set), level)
		}
	}
	return list
}

func TestPrint(t *testing.T) {
	cases := []struct {
		a    api.Label
		want string
	}{
		{l(0, 0), "0:"}, {l(0, 3), "3:"}, {l(1, 0), "0:0"}, {l(128, 2), "2:7"}, {l(5, 1), "1:02"}, {l(255, 3), "3:01234567"}, {l(170, 2), "2:1357"},
	}
	for _, c := range cases {
		if got := label.Print(c.a); got != c.want {
			t.Errorf("8.2: Print(%+v) = %q, want %q", c.a, got, c.want)
		}
	}
	list := texts()
	if len(list) != 1024 {
		t.Errorf("8.2: %d labels are right", len(list))
	}
	for want, a := range list {
		if got := label.Print(a); got != want {
			t.Errorf("8.2: Print(%+v) = %q, want %q", a, got, want)
		}
	}
}

// TestPrintWrong: no text of a label that is not right, by its Set, its Level, or both.
func TestPrintWrong(t *testing.T) {
	for k := 8; k < 64; k++ {
		for _, level := range levels {
			for _, more := range []uint64{0, 1, 255} {
				if got := label.Print(l(1<<uint(k)|more, level)); got != "" {
					t.Errorf("8.2: Print(bit %d, Level %d) = %q", k, level, got)
				}
			}
		}
	}
	for _, a := range anyLabels() {
		if wrong := a.Set > 255 || a.Level < 0 || a.Level > 3; wrong != (label.Print(a) == "") {
			t.Errorf("8.2: Print(%+v) = %q", a, label.Print(a))
		}
	}
}

// reads holds Read of s against the texts that may be.
func reads(t *testing.T, list map[string]api.Label, s string) {
	t.Helper()
	want, there := list[s]
	a, e := label.Read(s)
	if there && (a != want || e != api.OK) {
		t.Errorf("8.2: Read(%q) = %+v, %d, want %+v", s, a, e, want)
	}
	if !there && (a != api.Label{} || e != api.ErrForm) {
		t.Errorf("8.2: Read(%q) = %+v, %d, want ErrForm", s, a, e)
	}
}

// TestReadBack: each text that Print gives is read the same, and no other text than a label's own is read as it.
func TestReadBack(t *testing.T) {
	list := texts()
	for _, a := range rightLabels() {
		s := label.Print(a)
		if b, e := label.Read(s); b != a || e != api.OK {
			t.Errorf("8.2: Read(Print(%+v)) = %+v, %d", a, b, e)
		}
		reads(t, list, s)
	}
}

func TestReadWrong(t *testing.T) {
	cases := []string{
		// No text, no level, no colon.
		"", ":", ":0", ":02", "0", "3", "02", "102", "1 02", "1;02", "1.02", "1/02", "1", "1-", "1\x0002",
		// A level of two digits, above MaxLevel, with a sign, no digit.
		"00:", "01:0", "10:0", "11:02", "003:", "4:", "4:0", "5:", "7:1", "8:", "9:", "9:01", "256:0", "-1:0", "-0:", "+1:0", "+1:", "-:", "+:", "x:0", "/:0", "::", "::0", ";:0",
		// A blank anywhere.
		" ", " 1:02", "1 :02", "1: 02", "1:0 2", "1:02 ", "1:02\n", "1:02\t", "1:02\r\n", "\t1:02", "1: ", "1:\n", " 1:", "1:\u00a002",
		// Two colons.
		"1::", "1::02", "1:0:2", "1:02:", ":1:02", "1:0:", "0:1:2",
		// Members that do not rise, the same one twice.
		"1:20", "1:10", "1:021", "1:012345676", "1:0123456701", "1:76543210", "1:00", "1:022", "1:77", "1:002", "1:012345677", "0:0000000000",
		// No member: 8, 9, a sign, a letter, a byte behind or ahead of the digits, one of 128 or more.
		"1:8", "1:9", "1:08", "1:09", "1:89", "1:789", "1:012345678", "1:-", "1:-1", "1:+1", "1:0-2", "1:0,2", "1:0.2", "1:a", "1:0a", "1:H", "1:0H2", "1:x2", "1:0x2",
		"1:/", "1:0/", "1:/0", "1:;", "1:p", "1:0p", "1:\x00", "1:0\x00", "\x001:0", "1:\x7f", "1:\x80", "1:0\x80", "1:\xb0", "1:\xb0\xb2", "1:0\xb2", "1:\xff", "\xb1:0", "1\xba0",
		"1:\u0662", "1:\uff10", "\uff11:0", "1\uff1a0", "\ufeff1:02",
		// More text behind, or ahead.
		"1:02x", "1:02,", "1:02 1:02", "1:021:02", "1:02;", "1:02\x00", "(1:02)", "\"1:02\"", "l1:02", "{Set:5 Level:1}",
		"1:0123456789", "3:01234567 ", "3:012345670", "3:01234567\x00",
		"1:" + strings.Repeat("0", 1<<20), strings.Repeat("1", 1<<20) + ":", strings.Repeat(":", 1<<20), "3:01234567" + strings.Repeat("7", 1<<20), "3:" + strings.Repeat("01234567", 1<<16),
	}
	for _, s := range cases {
		if a, e := label.Read(s); a != (api.Label{}) || e != api.ErrForm {
			t.Errorf("8.2: Read(%.40q) = %+v, %d, want ErrForm", s, a, e)
		}
	}
}

// TestReadShort: all texts of at most two bytes, and each byte behind, ahead of and within longer ones.
func TestReadShort(t *testing.T) {
	list := texts()
	reads(t, list, "")
	for c := range 256 {
		reads(t, list, string([]byte{byte(c)}))
		for d := range 256 {
			reads(t, list, string([]byte{byte(c), byte(d)}))
		}
		for _, s := range []string{"1", "3", ":", "0:", "1:", "3:", "1:0", "1:06", "1:2", "3:0123456"} {
			reads(t, list, s+string([]byte{byte(c)}))
			reads(t, list, string([]byte{byte(c)})+s)
		}
		reads(t, list, string([]byte{'2', byte(c), '4'}))
	}
}

// TestReadAll: all texts of at most five of these bytes.
func TestReadAll(t *testing.T) {
	const bytes = "01346789:- +a/\xb2"
	list := texts()
	round := []string{""}
	for range 5 {
		var next []string
		for _, s := range round {
			for i := range len(bytes) {
				next = append(next, s+bytes[i:i+1])
			}
		}
		for _, s := range next {
			reads(t, list, s)
		}
		round = next
	}
}

// TestReadNear: each text that Read reads, with one byte turned, one more, or one less, at each place.
func TestReadNear(t *testing.T) {
	list := texts()
	for s := range list {
		for at := range len(s) + 1 {
			for c := range 256 {
				one := string([]byte{byte(c)})
				reads(t, list, s[:at]+one+s[at:])
				if at < len(s) {
					reads(t, list, s[:at]+one+s[at+1:])
				}
			}
			if at < len(s) {
				reads(t, list, s[:at]+s[at+1:])
			}
		}
	}
}
