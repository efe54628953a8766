package roll_test

import (
	"encoding/binary"
	"encoding/hex"
	"math"
	"math/bits"
	"slices"
	"strings"
	"testing"

	"pyx/api"
	"pyx/roll"
	"pyx/slab"
)

const (
	most   = api.MaxText + 20 // bytes of a body
	beside = 50               // bytes behind a region that is laid
)

// sealed puts the length and the mark ahead of what is behind a mark. It shares no code with the program.
func sealed(tail string, from int) string {
	h := uint64(from)
	for _, c := range []byte(tail + "\xff") {
		h = (bits.RotateLeft64(h, 9) ^ uint64(c)) * 0x9e3779b97f4a7c15
	}
	b := []byte{byte(128 + len(tail)/128), byte(128 + len(tail)%128)}
	return string(binary.BigEndian.AppendUint64(b, h)) + tail
}

// told is what is behind a mark, but the 255.
func told(seq uint64, count int, body string) string {
	b := binary.BigEndian.AppendUint64(nil, seq)
	return string(binary.AppendVarint(b, int64(count))) + body
}

// laid is a record as bytes, as it begins at from in its region.
func laid(seq int, body string, from int) string {
	return sealed(told(uint64(seq), len(body), body)+"\xff", from)
}

// rows is records one behind the other, from the beginning of a region on.
func rows(list ...roll.Record) string {
	b := ""
	for _, r := range list {
		b += laid(r.Seq, r.Body, len(b))
	}
	return b
}

func zeros(n int) string {
	return strings.Repeat("\x00", n)
}

// framed is text, and 0s behind it, as size bytes from at on, and other bytes around them.
func framed(at, size int, text string) string {
	return strings.Repeat("#", at) + text + zeros(size-len(text)) + strings.Repeat("#", beside)
}

// disk is a slab with the bytes of b; one Write was.
func disk(b string) *slab.Slab {
	s := slab.New(len(b))
	s.Write(0, []byte(b))
	return s
}

// holdDisk holds what is on a slab, all of it.
func holdDisk(t *testing.T, promise string, s *slab.Slab, want string) {
	t.Helper()
	if b, ok := s.Read(0, s.Size()); !ok || string(b) != want {
		t.Errorf("%s: on the slab is %q, want %q", promise, b, want)
	}
}

// holdRoll holds the records of a roll, and how many bytes of its region are free.
func holdRoll(t *testing.T, promise string, r *roll.Roll, size int, want ...roll.Record) {
	t.Helper()
	if list := r.Records(); !slices.Equal(list, want) {
		t.Errorf("%s: Records() = %v, want %v", promise, list, want)
	}
	if left := size - len(rows(want...)); r.Left() != left {
		t.Errorf("%s: Left() = %d, want %d", promise, r.Left(), left)
	}
}

func open(t *testing.T, s *slab.Slab, at, size int) *roll.Roll {
	t.Helper()
	r, e := roll.Open(s, at, size)
	if r == nil || e != api.OK {
		t.Fatalf("7.1: Open(.., %d, %d) = %v, %d", at, size, r, e)
	}
	return r
}

// holdOpen opens a region, holds its records, and how many Writes that took.
func holdOpen(t *testing.T, promise string, s *slab.Slab, at, size, writes int, want ...roll.Record) *roll.Roll {
	t.Helper()
	before := s.Writes()
	r := open(t, s, at, size)
	holdRoll(t, promise, r, size, want...)
	if n := s.Writes() - before; n != writes {
		t.Errorf("%s: Open took %d Writes, want %d", promise, n, writes)
	}
	return r
}

func appends(t *testing.T, promise string, r *roll.Roll, seq int, body string, want api.Errno) {
	t.Helper()
	if e := r.Append(seq, body); e != want {
		t.Errorf("%s: Append(%d, %d bytes) = %d, want %d", promise, seq, len(body), e, want)
	}
}

// chunks is how many Writes of 32 bytes n bytes are.
func chunks(n int) int {
	return (n + 31) / 32
}

func TestExample(t *testing.T) {
	s := slab.New(100)
	appends(t, "7.2", open(t, s, 0, 100), 1, "here", api.OK)
	holdOpen(t, "7.1", s, 0, 100, 0, roll.Record{Seq: 1, Body: "here"})
}

// written: the bytes were reckoned apart from the program and from the tests, each record behind those above it.
var written = []struct {
	seq  int
	body string
	want string
}{
	{1, "", "808a" + "7e546b432fe7e781" + "0000000000000001" + "00" + "ff"},
	{0x0102030405060708, "abc\xff\x00", "808f" + "8601d1b6d6a28ebd" + "0102030405060708" + "0a616263ff00" + "ff"},
	{math.MaxInt, strings.Repeat("z", 117), "8180" + "a62720fafedac07a" + "7fffffffffffffff" + "ea01" + strings.Repeat("7a", 117) + "ff"},
}

// TestBytes: a record's bytes, wherever in the slab its region is; and that each Append is one Write.
func TestBytes(t *testing.T) {
	for _, at := range []int{0, 1, 300} {
		s := disk(framed(at, 200, ""))
		r := open(t, s, at, 200)
		var list []roll.Record
		text := ""
		for k, c := range written {
			appends(t, "7.1", r, c.seq, c.body, api.OK)
			b, err := hex.DecodeString(c.want)
			if err != nil {
				t.Fatal(err)
			}
			text += string(b)
			list = append(list, roll.Record{Seq: c.seq, Body: c.body})
			holdDisk(t, "7.1", s, framed(at, 200, text))
			holdRoll(t, "7.2", r, 200, list...)
			if s.Writes() != 2+k {
				t.Errorf("7.2: %d Writes behind Append %d", s.Writes(), k)
			}
			holdOpen(t, "7.1", s, at, 200, 0, list...)
		}
		appends(t, "7.2", r, math.MaxInt, "", api.ErrArg)
	}
}

// TestLengths: a body of each length that may be, with a record ahead.
func TestLengths(t *testing.T) {
	first := roll.Record{Seq: 2, Body: "ahead"}
	head := rows(first)
	firsts := map[int]string{0: "\x80\x8a", 1: "\x80\x8b", 63: "\x80\xc9", 64: "\x80\xcb", 116: "\x80\xff", 117: "\x81\x80", 118: "\x81\x81",
		244: "\x81\xff", 245: "\x82\x80", 372: "\x82\xff", 373: "\x83\x80", most: "\x83\xaf"}
	for n := range most + 1 {
		body := strings.Repeat("\x00\xff\x80a", most/4)[:n]
		s := disk(framed(3, 600, ""))
		r := open(t, s, 3, 600)
		appends(t, "7.2", r, first.Seq, first.Body, api.OK)
		appends(t, "7.2", r, 3, body, api.OK)
		if s.Writes() != 3 {
			t.Errorf("7.2: %d Writes behind an Append of %d bytes", s.Writes(), n)
		}
		text := head + laid(3, body, len(head))
		if want := firsts[n]; want != "" && text[len(head):][:2] != want {
			t.Errorf("7.1: the length of %d bytes is laid as %x", n, text[len(head):][:2])
		}
		holdDisk(t, "7.1", s, framed(3, 600, text))
		holdRoll(t, "7.2", r, 600, first, roll.Record{Seq: 3, Body: body})
		holdOpen(t, "7.1", s, 3, 600, 0, first, roll.Record{Seq: 3, Body: body})
	}
}

func TestSeqs(t *testing.T) {
	for _, seq := range []int{1, 2, 127, 128, 255, 256, 65535, 65536, 1 << 31, 1<<32 - 1, 1 << 32, 1 << 55, 1 << 62, math.MaxInt - 1, math.MaxInt} {
		s := disk(framed(4, 64, ""))
		r := open(t, s, 4, 64)
		appends(t, "7.2", r, seq, "q", api.OK)
		holdDisk(t, "7.1", s, framed(4, 64, laid(seq, "q", 0)))
		holdOpen(t, "7.1", s, 4, 64, 0, roll.Record{Seq: seq, Body: "q"})
		for _, less := range []int{math.MinInt, -seq, -1, 0, 1, seq / 2, seq - 1, seq} {
			appends(t, "7.2", r, less, "r", api.ErrArg)
		}
		if seq < math.MaxInt {
			appends(t, "7.2", r, seq+1, "r", api.OK)
			holdOpen(t, "7.1", s, 4, 64, 0, roll.Record{Seq: seq, Body: "q"}, roll.Record{Seq: seq + 1, Body: "r"})
		}
	}
}

// TestOpenErrors: in the order in which they are named.
func TestOpenErrors(t *testing.T) {
	const size = 9000
	text := strings.Repeat("#", size)
	s, dead := disk(text), disk(text)
	dead.Cut(0, 0)
	dead.Write(0, nil)
	cases := []struct {
		at, size int
		want     api.Errno
	}{
		{0, 31, api.ErrArg}, {0, 32, api.OK}, {0, 33, api.OK}, {0, 8191, api.OK}, {0, 8192, api.OK}, {0, 8193, api.ErrArg}, {0, 9000, api.ErrArg},
		{0, 0, api.ErrArg}, {0, 1, api.ErrArg}, {0, -1, api.ErrArg}, {0, -32, api.ErrArg}, {100, -32, api.ErrArg},
		{-1, 32, api.ErrArg}, {-32, 32, api.ErrArg}, {-32, 64, api.ErrArg}, {1, 32, api.OK},
		{size - 33, 32, api.OK}, {size - 32, 32, api.OK}, {size - 31, 32, api.ErrArg}, {size, 32, api.ErrArg}, {size + 1, 32, api.ErrArg},
		{size - 8192, 8192, api.OK}, {size - 8191, 8192, api.ErrArg},
		{math.MaxInt, 32, api.ErrArg}, {math.MaxInt - 31, 32, api.ErrArg}, {math.MaxInt - 8191, 8192, api.ErrArg}, {1 << 62, 1 << 62, api.ErrArg},
		{32, math.MaxInt, api.ErrArg}, {0, math.MaxInt, api.ErrArg}, {math.MaxInt, math.MaxInt, api.ErrArg},
		{math.MinInt, 32, api.ErrArg}, {math.MinInt, 8192, api.ErrArg}, {0, math.MinInt, api.ErrArg}, {math.MinInt, math.MinInt, api.ErrArg},
	}
	for _, c := range cases {
		if r, e := roll.Open(nil, c.at, c.size); r != nil || e != api.ErrArg {
			t.Errorf("7.1: Open(nil, %d, %d) = %v, %d", c.at, c.size, r, e)
		}
		want := c.want
		if want == api.OK {
			want = api.ErrDown
		}
		if r, e := roll.Open(dead, c.at, c.size); r != nil || e != want {
			t.Errorf("7.1: dead: Open(.., %d, %d) = %v, %d, want %d", c.at, c.size, r, e, want)
		}
		if c.want != api.OK {
			if r, e := roll.Open(s, c.at, c.size); r != nil || e != c.want {
				t.Errorf("7.1: Open(.., %d, %d) = %v, %d, want %d", c.at, c.size, r, e, c.want)
			}
			holdDisk(t, "7.1", s, text)
			continue
		}
		fresh := disk(text)
		holdOpen(t, "7.1", fresh, c.at, c.size, chunks(c.size))
		holdDisk(t, "7.1", fresh, text[:c.at]+zeros(c.size)+text[c.at+c.size:])
	}
	dead.Revive()
	holdDisk(t, "7.1", dead, text)
	for size := range 32 {
		if r, e := roll.Open(slab.New(size), 0, 32); r != nil || e != api.ErrArg {
			t.Errorf("7.1: Open of 32 bytes of %d = %v, %d", size, r, e)
		}
	}
	holdOpen(t, "7.1", slab.New(32), 0, 32, 0)
}

// TestOpenBlank: nothing is written, and all is free.
func TestOpenBlank(t *testing.T) {
	for _, size := range []int{32, 33, 63, 64, 65, 1200, 8191, 8192} {
		for _, at := range []int{0, 1, 77} {
			s := disk(framed(at, size, ""))
			r := holdOpen(t, "7.1", s, at, size, 0)
			holdDisk(t, "7.1", s, framed(at, size, ""))
			appends(t, "7.2", r, 1, "a", api.OK)
			holdDisk(t, "7.2", s, framed(at, size, laid(1, "a", 0)))
			holdOpen(t, "7.1", s, at, size, 0, roll.Record{Seq: 1, Body: "a"})
		}
	}
}

// TestOpenFull: records to the last byte; what looks as a record behind it is of no region.
func TestOpenFull(t *testing.T) {
	list := []roll.Record{{Seq: 1, Body: "one"}, {Seq: 5, Body: ""}, {Seq: 6, Body: strings.Repeat("\xff", 70)}, {Seq: 99, Body: "the last one"}}
	text := rows(list...)
	size := len(text)
	all := "##" + text + laid(100, "outside", size) + "##"
	s := disk(all)
	r := holdOpen(t, "7.1", s, 2, size, 0, list...)
	holdDisk(t, "7.1", s, all)
	if r.Left() != 0 {
		t.Errorf("7.2: Left() = %d", r.Left())
	}
	appends(t, "7.2", r, 100, "", api.ErrFull)
	appends(t, "7.2", r, 99, "", api.ErrArg)
	holdDisk(t, "7.2", s, all)
}

// TestOpenMany: as many as there is room for.
func TestOpenMany(t *testing.T) {
	s := slab.New(8192)
	r := open(t, s, 0, 8192)
	var list []roll.Record
	for seq := 1; r.Left() >= 20; seq++ {
		appends(t, "7.2", r, seq, "", api.OK)
		list = append(list, roll.Record{Seq: seq})
	}
	if len(list) != 409 {
		t.Errorf("7.2: %d records of no body go into 8192 bytes", len(list))
	}
	holdRoll(t, "7.2", r, 8192, list...)
	holdOpen(t, "7.1", s, 0, 8192, 0, list...)
}

// TestOpenLong: a body is as long as its record says, also one that no Append takes.
func TestOpenLong(t *testing.T) {
	for _, n := range []int{most, most + 1, 1000, 8192 - 22 - 19 - 2} {
		list := []roll.Record{{Seq: 1, Body: "ab"}, {Seq: 2, Body: strings.Repeat("c", n)}}
		text := rows(list...)
		if len(text) > 8192 {
			t.Fatalf("%d bytes", len(text))
		}
		holdOpen(t, "7.1", disk(framed(9, 8192, text)), 9, 8192, 0, list...)
	}
}

// broken: bytes that begin at from in their region, and are no record behind one of the Seq ahead.
func broken(from, ahead int) map[string]string {
	const seq = 900
	good := told(seq, 4, "body") + "\xff"
	whole := sealed(good, from)
	list := map[string]string{
		"the first byte without its 128":  string(whole[0]-128) + whole[1:],
		"the first byte 127":              "\x7f" + whole[1:],
		"the second byte without its 128": whole[:1] + string(whole[1]-128) + whole[2:],
		"the second byte 127":             whole[:1] + "\x7f" + whole[2:],
		"a length that is one less":       whole[:1] + string([]byte{whole[1] - 1}) + whole[2:],
		"a length that is one more":       whole[:1] + string([]byte{whole[1] + 1}) + whole[2:],
		"the greatest length":             "\xff\xff" + whole[2:],
		"the length without the mark":     "\x80" + string([]byte{whole[1] + 8}) + whole[2:],
		"no 255":                          sealed(good[:len(good)-1], from),
		"254 at the end":                  sealed(good[:len(good)-1]+"\xfe", from),
		"0 at the end":                    sealed(good[:len(good)-1]+"\x00", from),
		"127 at the end":                  sealed(good[:len(good)-1]+"\x7f", from),
		"the mark of another place":       sealed(good, from+1),
		"the mark of the place ahead":     sealed(good, from-1),
		"the mark of none":                whole[:2] + zeros(8) + good,
		"the mark without the 255":        whole[:2] + sealed(good[:len(good)-1], from)[2:10] + good,
		"the mark with the length":        whole[:2] + sealed(whole[:2]+good, from)[2:10] + good,
		"something between":               sealed(good[:len(good)-1]+"x\xff", from),
		"a 0 between":                     sealed(good[:len(good)-1]+"\x00\xff", from),
		"a 255 between":                   sealed(good+"\xff", from),
		"a body that takes the 255":       sealed(told(seq, 5, "body")+"\xff", from),
		"a body that goes on":             sealed(told(seq, 6, "body")+"\xff", from),
		"a body without an end":           sealed(told(seq, math.MaxInt, "body")+"\xff", from),
		"a body below 0":                  sealed(told(seq, -1, "body")+"\xff", from),
		"a body far below 0":              sealed(told(seq, math.MinInt, "body")+"\xff", from),
		"a body that is counted long":     sealed(string(good[:8])+"\x88\x00body\xff", from),
		"a body whose count has no end":   sealed(string(good[:8])+"\x80\xff", from),
		"a body that is not there":        sealed(string(good[:8])+"\xff", from),
		"the Seq ahead":                   laid(ahead, "body", from),
		"a Seq of 0":                      laid(0, "body", from),
		"a Seq of -1":                     laid(-1, "body", from),
		"the Seq below 0 that is it":      laid(-seq, "body", from),
		"a Seq that is no int":            sealed(told(1<<63, 4, "body")+"\xff", from),
		"a greater Seq that is no int":    sealed(told(1<<63+seq, 4, "body")+"\xff", from),
		"the greatest Seq, no int":        sealed(told(math.MaxUint64, 4, "body")+"\xff", from),
		"a Seq below the one ahead":       laid(ahead-1, "body", from),
		"a 0 ahead of it":                 "\x00" + sealed(good, from+1),
		"one byte of 255":                 "\xff",
		"two bytes of 128":                "\x80\x80",
		"one byte of 1":                   "\x01",
		"text":                            "this is no record",
		"nothing but 255":                 strings.Repeat("\xff", 60),
		"nothing but 128":                 strings.Repeat("\x80", 60),
	}
	// 161 bytes are behind the mark: as 129 and 161 alone, though the numbers of these come to as many.
	long := laid(seq, strings.Repeat("z", 150), from)
	list["a second byte that is 128 too little"] = "\x80\x21" + long[2:]
	list["a second byte that is made up for"] = "\x82\x21" + long[2:]
	for n := range 9 {
		list["so few behind the mark: "+string(rune('1'+n))] = sealed(good[:n]+"\xff", from)
	}
	list["nothing behind the mark"] = sealed("", from)
	return list
}

// TestNotWhole: those ahead are told, none behind; what is there is wiped; and it goes on from there.
func TestNotWhole(t *testing.T) {
	lists := [][]roll.Record{nil, {{Seq: 3, Body: "ahead"}}, {{Seq: 3, Body: "ahead"}, {Seq: 700, Body: strings.Repeat("\xff", 90)}}}
	for _, list := range lists {
		head, ahead := rows(list...), 0
		if len(list) > 0 {
			ahead = list[len(list)-1].Seq
		}
		for name, b := range broken(len(head), ahead) {
			for _, tail := range []string{"", laid(901, "behind", len(head)+len(b)), zeros(40) + "x"} {
				text := head + b + tail
				s := disk(framed(6, 400, text))
				holdOpen(t, "7.1, "+name, s, 6, 400, chunks(400-len(head)), list...)
				holdDisk(t, "7.1, "+name, s, framed(6, 400, head))
				r := holdOpen(t, "7.3, "+name, s, 6, 400, 0, list...)
				appends(t, "7.2, "+name, r, ahead+1, "next", api.OK)
				more := append(slices.Clone(list), roll.Record{Seq: ahead + 1, Body: "next"})
				holdDisk(t, "7.2, "+name, s, framed(6, 400, rows(more...)))
				holdOpen(t, "7.3, "+name, s, 6, 400, 0, more...)
			}
		}
	}
}

// TestSeqsRise: behind a Seq each one that is not above it ends the records, and each one that is does not.
func TestSeqsRise(t *testing.T) {
	seqs := []int{math.MinInt, -5, -1, 0, 1, 2, 4, 5, 6, 255, 256, 1 << 32, math.MaxInt - 1, math.MaxInt}
	for _, one := range seqs {
		for _, two := range seqs {
			list := []roll.Record{{Seq: one, Body: "a"}, {Seq: two, Body: "b"}}
			s := disk(framed(0, 60, rows(list...)))
			switch {
			case one <= 0:
				list = nil
			case two <= one:
				list = list[:1]
			}
			r := open(t, s, 0, 60)
			holdRoll(t, "7.1", r, 60, list...)
			holdDisk(t, "7.1", s, framed(0, 60, rows(list...)))
		}
	}
}

// TestBeyond: a record whose end is not in the region is none, though all of it is on the slab.
func TestBeyond(t *testing.T) {
	first := roll.Record{Seq: 1, Body: strings.Repeat("ahead ", 9)}
	head := rows(first)
	second := laid(2, "goes on beyond the region", len(head))
	for n := 1; n < len(second); n++ {
		for _, rest := range []string{second[n:], zeros(len(second) - n), strings.Repeat("\xff", 60)} {
			s := disk("##" + head + second[:n] + rest)
			holdOpen(t, "7.1", s, 2, len(head)+n, chunks(n), first)
			holdDisk(t, "7.1", s, "##"+head+zeros(n)+rest)
		}
	}
	holdOpen(t, "7.1", disk("##"+head+second+"##"), 2, len(head+second), 0, first, roll.Record{Seq: 2, Body: "goes on beyond the region"})
	alone := laid(1, "this record has 45 bytes.", 0)
	for size := 32; size < len(alone); size++ {
		holdOpen(t, "7.1", disk(alone+"##"), 0, size, chunks(size))
	}
	holdOpen(t, "7.1", disk(alone+"##"), 0, len(alone), 0, roll.Record{Seq: 1, Body: "this record has 45 bytes."})
}

// TestTurned: of a record with one byte that is another one nothing is told.
func TestTurned(t *testing.T) {
	first, second := roll.Record{Seq: 1, Body: "first"}, roll.Record{Seq: 2, Body: "\xff\x80second"}
	head := rows(first)
	whole := rows(first, second, roll.Record{Seq: 3, Body: "third"})
	for place := len(head); place < len(rows(first, second)); place++ {
		for by := 1; by < 256; by++ {
			b := []byte(framed(1, 120, whole))
			b[1+place] ^= byte(by)
			s := disk(string(b))
			holdOpen(t, "7.1", s, 1, 120, chunks(120-len(head)), first)
			holdDisk(t, "7.1", s, framed(1, 120, head))
		}
	}
}

// TestWipe: of what is behind the last record, of each length, wherever in it a byte is not 0.
func TestWipe(t *testing.T) {
	list := []roll.Record{{Seq: 4, Body: strings.Repeat("head", 9)}}
	head := rows(list...)
	for n := range 101 {
		size := len(head) + n
		holdOpen(t, "7.1", disk(framed(5, size, head)), 5, size, 0, list...)
		for _, place := range []int{0, 1, n / 2, 31, 32, 33, 63, 64, n - 2, n - 1} {
			if place < 0 || place >= n {
				continue
			}
			for _, c := range []string{"\x01", "\x80", "\xff"} {
				s := disk(framed(5, size, head+zeros(place)+c))
				holdOpen(t, "7.1", s, 5, size, chunks(n), list...)
				holdDisk(t, "7.1", s, framed(5, size, head))
			}
		}
		s := disk(framed(5, size, head+strings.Repeat("x", n)))
		holdOpen(t, "7.1", s, 5, size, chunks(n), list...)
		holdDisk(t, "7.1", s, framed(5, size, head))
	}
}

// TestWipeFalls: at each of its Writes, torn at each byte; what was wiped is all that is ahead of there.
func TestWipeFalls(t *testing.T) {
	list := []roll.Record{{Seq: 4, Body: "the one ahead"}, {Seq: 9, Body: ""}}
	head := rows(list...)
	for _, n := range []int{1, 2, 31, 32, 33, 63, 64, 65, 100, 128} {
		size := len(head) + n
		rubbish := strings.Repeat("\xff\x80r", n)[:n]
		for cut := range chunks(n) {
			for torn := range 34 {
				s := disk(framed(5, size, head+rubbish))
				s.Cut(cut, torn)
				if r, e := roll.Open(s, 5, size); r != nil || e != api.ErrDown || !s.Dead() || s.Writes() != 2+cut {
					t.Errorf("7.1: Cut(%d, %d): Open = %v, %d, Dead %t, %d Writes", cut, torn, r, e, s.Dead(), s.Writes())
				}
				if r, e := roll.Open(s, 5, size); r != nil || e != api.ErrDown || s.Writes() != 2+cut {
					t.Errorf("7.1: dead: Open = %v, %d, %d Writes", r, e, s.Writes())
				}
				s.Revive()
				gone := min(32*cut+min(torn, 32), n)
				holdDisk(t, "7.1", s, framed(5, size, head+zeros(gone)+rubbish[gone:]))
				writes := chunks(n)
				if gone == n {
					writes = 0
				}
				holdOpen(t, "7.3", s, 5, size, writes, list...)
				holdDisk(t, "7.3", s, framed(5, size, head))
			}
		}
		s := disk(framed(5, size, head+rubbish))
		s.Cut(chunks(n), 0)
		holdOpen(t, "7.1", s, 5, size, chunks(n), list...)
	}
}

// TestAppendErrors: in the order in which they are named; none of them changes anything.
func TestAppendErrors(t *testing.T) {
	longest, longer := strings.Repeat("l", most), strings.Repeat("l", most+1)
	cases := []struct {
		size, seq int
		body      string
		want      api.Errno
	}{
		{90, math.MinInt, "a", api.ErrArg}, {90, -1, "a", api.ErrArg}, {90, 0, "a", api.ErrArg}, {90, 1, "a", api.ErrArg},
		{90, 11, "a", api.ErrArg}, {90, 12, "a", api.ErrArg}, {90, 13, "a", api.OK}, {90, math.MaxInt, "a", api.OK},
		{8192, 13, longest, api.OK}, {8192, 13, longer, api.ErrArg}, {8192, 13, longer + longer, api.ErrArg}, {8192, 13, strings.Repeat("l", 8192), api.ErrArg},
		{8192, 12, longest, api.ErrArg}, {8192, 0, longer, api.ErrArg},
		{90, 13, longest, api.ErrFull}, {90, 12, longest, api.ErrArg}, {90, -13, longest, api.ErrArg}, {90, 13, longer, api.ErrArg}, {90, 12, longer, api.ErrArg},
	}
	list := []roll.Record{{Seq: 12, Body: "ahead"}}
	for _, c := range cases {
		for _, dead := range []bool{false, true} {
			s := disk(framed(8, c.size, rows(list...)))
			r := open(t, s, 8, c.size)
			want := c.want
			if dead {
				s.Cut(0, 0)
				s.Write(0, nil)
			}
			if dead && want == api.OK {
				want = api.ErrDown
			}
			writes := s.Writes()
			appends(t, "7.2", r, c.seq, c.body, want)
			s.Revive()
			if want == api.OK {
				holdRoll(t, "7.2", r, c.size, list[0], roll.Record{Seq: c.seq, Body: c.body})
				continue
			}
			holdRoll(t, "7.2", r, c.size, list...)
			holdDisk(t, "7.2", s, framed(8, c.size, rows(list...)))
			if s.Writes() != writes {
				t.Errorf("7.2: Append(%d, %d bytes) = %d has written", c.seq, len(c.body), want)
			}
			appends(t, "7.2", r, 13, "n", api.OK)
			holdDisk(t, "7.2", s, framed(8, c.size, rows(list[0], roll.Record{Seq: 13, Body: "n"})))
		}
	}
}

// TestFirstSeq: the first one is above 0.
func TestFirstSeq(t *testing.T) {
	r := open(t, slab.New(64), 0, 64)
	for _, seq := range []int{math.MinInt, -2, -1, 0} {
		appends(t, "7.2", r, seq, "", api.ErrArg)
		holdRoll(t, "7.2", r, 64)
	}
	appends(t, "7.2", r, 1, "", api.OK)
	holdRoll(t, "7.2", r, 64, roll.Record{Seq: 1})
}

// TestGoesIn: in regions of many sizes a record goes in to the last byte, and none that is one byte longer.
func TestGoesIn(t *testing.T) {
	for size := 32; size <= 520; size++ {
		for _, list := range [][]roll.Record{nil, {{Seq: 1, Body: ""}}} {
			head := rows(list...)
			for n := range most + 1 {
				end := len(head) + 19 + n + 1
				if n > 63 {
					end++
				}
				if end < size-1 || end > size+1 {
					continue
				}
				s := disk(framed(2, size, head))
				r := open(t, s, 2, size)
				next := roll.Record{Seq: 2, Body: strings.Repeat("b", n)}
				if end > size {
					appends(t, "7.2", r, 2, next.Body, api.ErrFull)
					holdRoll(t, "7.2", r, size, list...)
					holdDisk(t, "7.2", s, framed(2, size, head))
					appends(t, "7.2", r, 2, "", goes(len(head)+20 <= size))
					continue
				}
				appends(t, "7.2", r, 2, next.Body, api.OK)
				if r.Left() != size-end {
					t.Errorf("7.2: Left() = %d, want %d", r.Left(), size-end)
				}
				holdDisk(t, "7.2", s, framed(2, size, rows(append(slices.Clone(list), next)...)))
				appends(t, "7.2", r, 3, "", api.ErrFull)
				holdOpen(t, "7.1", s, 2, size, 0, append(slices.Clone(list), next)...)
			}
		}
	}
}

func goes(room bool) api.Errno {
	if room {
		return api.OK
	}
	return api.ErrFull
}

// TestDown: what failed is not in the roll, and it answers as ahead; revived, it goes on at the same place.
func TestDown(t *testing.T) {
	list := []roll.Record{{Seq: 5, Body: "ahead"}}
	head := rows(list...)
	next := laid(6, "under way", len(head))
	for torn := -1; torn <= len(next)+1; torn++ {
		s := disk(framed(3, 70, head))
		r := open(t, s, 3, 70)
		s.Cut(0, torn)
		appends(t, "7.2", r, 6, "under way", api.ErrDown)
		for range 2 {
			holdRoll(t, "7.2", r, 70, list...)
			appends(t, "7.2", r, 6, "under way", api.ErrDown)
			appends(t, "7.2", r, 7, "another", api.ErrDown)
			appends(t, "7.2", r, 5, "another", api.ErrArg)
			appends(t, "7.2", r, 7, strings.Repeat("x", most+1), api.ErrArg)
			appends(t, "7.2", r, 7, strings.Repeat("x", 60), api.ErrFull)
		}
		if s.Writes() != 2 {
			t.Errorf("7.2: %d Writes, torn at %d", s.Writes(), torn)
		}
		s.Revive()
		holdRoll(t, "7.2", r, 70, list...)
		there := next[:min(max(torn, 0), len(next))]
		holdDisk(t, "7.2", s, framed(3, 70, head+there))
		appends(t, "7.2", r, 6, "said again", api.OK)
		more := []roll.Record{list[0], {Seq: 6, Body: "said again"}}
		holdRoll(t, "7.2", r, 70, more...)
		holdDisk(t, "7.2", s, framed(3, 70, rows(more...)))
	}
}

// TestOneWrite: with no power for more than one Write an Append is well.
func TestOneWrite(t *testing.T) {
	for _, n := range []int{0, 1, 31, 32, 33, 64, 200, most} {
		s := slab.New(500)
		r := open(t, s, 0, 500)
		s.Cut(1, 0)
		appends(t, "7.2", r, 1, strings.Repeat("w", n), api.OK)
		if s.Dead() || s.Writes() != 1 {
			t.Errorf("7.2: Append of %d bytes: Dead %t, %d Writes", n, s.Dead(), s.Writes())
		}
		s.Cut(0, most+30)
		appends(t, "7.2", r, 2, "x", api.ErrDown)
	}
}

// TestLeft: behind each Append, each one that is none, and each Open.
func TestLeft(t *testing.T) {
	s := slab.New(200)
	r := open(t, s, 40, 150)
	left := func(want int) {
		t.Helper()
		if r.Left() != want {
			t.Errorf("7.2: Left() = %d, want %d", r.Left(), want)
		}
	}
	left(150)
	appends(t, "7.2", r, 1, "", api.OK)
	left(130)
	appends(t, "7.2", r, 1, "again", api.ErrArg)
	left(130)
	appends(t, "7.2", r, 2, strings.Repeat("a", 63), api.OK)
	left(47)
	appends(t, "7.2", r, 3, strings.Repeat("a", 28), api.ErrFull)
	left(47)
	appends(t, "7.2", r, 3, strings.Repeat("a", 26), api.OK)
	left(1)
	r = open(t, s, 40, 150)
	left(1)
	s.Write(189, []byte{1})
	r = open(t, s, 40, 150)
	left(1)
	s.Write(188, []byte{1})
	r = open(t, s, 40, 150)
	left(47)
	s.Cut(0, 5)
	appends(t, "7.2", r, 3, "b", api.ErrDown)
	left(47)
}

// spoil turns each record of a list and of its spare room.
func spoil(list []roll.Record) {
	room := list[:cap(list)]
	for k := range room {
		room[k] = roll.Record{Seq: -77, Body: "spoiled"}
	}
}

// TestRecordsAreNew: an answer is the roll's no more, and no other answer's.
func TestRecordsAreNew(t *testing.T) {
	s := slab.New(2000)
	r := open(t, s, 0, 2000)
	var list []roll.Record
	for seq := 1; seq <= 20; seq++ {
		spoil(r.Records())
		first, second := r.Records(), r.Records()
		spoil(second)
		if !slices.Equal(first, list) {
			t.Errorf("R2: two answers of Records share memory: %v", first)
		}
		appends(t, "7.2", r, seq, strings.Repeat("n", seq), api.OK)
		if !slices.Equal(first, list) {
			t.Errorf("R2: Append has changed what Records answered: %v", first)
		}
		list = append(list, roll.Record{Seq: seq, Body: strings.Repeat("n", seq)})
		spoil(first)
		holdRoll(t, "R2", r, 2000, list...)
		if seq%5 == 0 {
			r = open(t, s, 0, 2000)
			spoil(r.Records())
			holdRoll(t, "R2", r, 2000, list...)
		}
	}
}

// TestTwoRegions: one beside the other, on one slab.
func TestTwoRegions(t *testing.T) {
	a, b := roll.Record{Seq: 1, Body: "of the first"}, roll.Record{Seq: 1, Body: "of the second one"}
	on := func(first, second string) string {
		return "#" + first + zeros(100-len(first)) + second + zeros(80-len(second)) + "#"
	}
	s := disk(on("", ""))
	one, two := open(t, s, 1, 100), open(t, s, 101, 80)
	appends(t, "R7", one, a.Seq, a.Body, api.OK)
	holdRoll(t, "R7", two, 80)
	appends(t, "R7", two, b.Seq, b.Body, api.OK)
	holdRoll(t, "R7", one, 100, a)
	holdRoll(t, "R7", two, 80, b)
	holdDisk(t, "R7", s, on(rows(a), rows(b)))

	s.Cut(0, 12)
	appends(t, "R7", one, 2, "torn", api.ErrDown)
	appends(t, "R7", two, 2, "dead", api.ErrDown)
	s.Revive()
	holdOpen(t, "R7", s, 101, 80, 0, b)
	holdDisk(t, "R7", s, on(rows(a)+laid(2, "torn", len(rows(a)))[:12], rows(b)))
	holdOpen(t, "R7", s, 1, 100, chunks(100-len(rows(a))), a)
	holdDisk(t, "R7", s, on(rows(a), rows(b)))

	appends(t, "R7", two, 2, "more", api.OK)
	holdOpen(t, "R7", s, 1, 100, 0, a)
	holdOpen(t, "R7", s, 101, 80, 0, b, roll.Record{Seq: 2, Body: "more"})
	holdRoll(t, "R7", one, 100, a)
}

// TestTwoRolls: of one region; what one of them is told the other one does not know.
func TestTwoRolls(t *testing.T) {
	s := slab.New(100)
	one, two := open(t, s, 0, 100), open(t, s, 0, 100)
	appends(t, "R7", one, 1, "a", api.OK)
	holdRoll(t, "R7", one, 100, roll.Record{Seq: 1, Body: "a"})
	holdRoll(t, "R7", two, 100)
}

// TestNil: a nil roll is ErrArg, or answers nothing.
func TestNil(t *testing.T) {
	var r *roll.Roll
	for _, seq := range []int{math.MinInt, -1, 0, 1, math.MaxInt} {
		for _, n := range []int{0, 1, most, most + 1, 9000} {
			appends(t, "R1", r, seq, strings.Repeat("n", n), api.ErrArg)
		}
	}
	if list := r.Records(); len(list) != 0 || r.Left() != 0 {
		t.Errorf("R1: nil: Records %v, Left %d", list, r.Left())
	}
	if made, e := roll.Open(nil, 0, 32); made != nil || e != api.ErrArg {
		t.Errorf("R1: Open(nil, 0, 32) = %v, %d", made, e)
	}
}

// TestNotOpened: of a roll that no Open made nothing is promised, but that its calls end and none panics.
func TestNotOpened(t *testing.T) {
	r := new(roll.Roll)
	for _, seq := range []int{math.MinInt, 0, 1, math.MaxInt} {
		r.Append(seq, "")
		r.Append(seq, strings.Repeat("n", most))
	}
	r.Records()
	r.Left()
}
