package roll

import (
	"bytes"

	"pyx/api"
	"pyx/mark"
	"pyx/pack"
)

// A record: two bytes of how many are behind its mark, the mark, the Seq, the Text of the Body, and 255.
// The last byte is not 0: a record that is torn, on 0s, lacks it.
const (
	base        = 128 // of the length's two bytes, and set in both
	lengthBytes = 2
	headBytes   = lengthBytes + 8 // with the mark
	seqBytes    = 8
	byteBits    = 8
	lastByte    = 255
	leastBytes  = seqBytes + 2 // behind a mark: the Text of no bytes is one byte
)

// laid is r as bytes, as it begins at from in its region.
func laid(r Record, from int) []byte {
	tail := append(pack.Text(mark.Bytes(uint64(r.Seq)), r.Body), lastByte)
	b := []byte{byte(base + len(tail)/base), byte(base + len(tail)%base)}
	b = append(b, marked(tail, from)...)
	return append(b, tail...)
}

// whole is the record that b, which begins at from in its region, begins with, and how many bytes it has;
// false, if there is none that is whole and has a Seq above that of the one ahead.
func whole(b []byte, from, ahead int) (r Record, size int, ok bool) {
	n := length(b)
	if n < leastBytes || n > len(b)-headBytes {
		return Record{}, 0, false
	}
	size = headBytes + n
	tail := b[headBytes:size]
	if tail[n-1] != lastByte || !bytes.Equal(b[lengthBytes:headBytes], marked(tail, from)) {
		return Record{}, 0, false
	}
	seq := number(tail[:seqBytes])
	body, rest, e := pack.ReadText(tail[seqBytes : n-1])
	if seq <= ahead || e != api.OK || len(rest) > 0 {
		return Record{}, 0, false
	}
	return Record{Seq: seq, Body: body}, size, true
}

// length is how many bytes are behind the mark, by the first two bytes of a record; 0, if they say none.
func length(b []byte) int {
	if len(b) < lengthBytes || b[0] < base || b[1] < base {
		return 0
	}
	return int(b[0]-base)*base + int(b[1]-base)
}

// marked is the mark of what is behind it. The same bytes at another place have another one.
func marked(tail []byte, from int) []byte {
	return mark.Bytes(mark.Sum(uint64(from), tail))
}

// number is the Seq of eight bytes. A word that is no int is turned to one below 0, so that it is above no Seq.
func number(b []byte) int {
	var word uint64
	for _, c := range b {
		word = word<<byteBits | uint64(c)
	}
	return int(word)
}
