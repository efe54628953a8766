package roll_test

import (
	"encoding/binary"
	"math/rand/v2"
	"slices"
	"strings"
	"testing"

	"pyx/api"
	"pyx/roll"
	"pyx/slab"
)

// row is records to be appended: short and long ones, some that look as the bytes of records do.
func row() []roll.Record {
	list := []roll.Record{{Seq: 1, Body: "first"}, {Seq: 2, Body: strings.Repeat("ab\xff", 60)}, {Seq: 30, Body: ""}, {Seq: 31, Body: "\xff\xff\x80"}}
	within := laid(1000, "within", len(rows(list...))+19)
	return append(list, roll.Record{Seq: 32, Body: within}, roll.Record{Seq: 500, Body: zeros(40)}, roll.Record{Seq: 501, Body: "\xff"})
}

// fallen is a slab with a region of size bytes from at on: the power went under the Append of row()[cut], torn there.
func fallen(t *testing.T, at, size, cut, torn int) *slab.Slab {
	t.Helper()
	s := disk(framed(at, size, ""))
	r := open(t, s, at, size)
	s.Cut(cut, torn)
	for k, next := range row() {
		want := api.OK
		if k >= cut {
			want = api.ErrDown
		}
		appends(t, "7.2", r, next.Seq, next.Body, want)
	}
	holdRoll(t, "7.2", r, size, row()[:cut]...)
	if r, e := roll.Open(s, at, size); r != nil || e != api.ErrDown {
		t.Errorf("7.1: dead: Open = %v, %d", r, e)
	}
	s.Revive()
	return s
}

// there is what must be found behind that.
func there(cut, torn int) []roll.Record {
	list := row()
	if torn >= len(rows(list[:cut+1]...))-len(rows(list[:cut]...)) {
		return list[:cut+1]
	}
	return list[:cut]
}

// goesOn appends to an opened region what is not there yet, and finds all of it again.
func goesOn(t *testing.T, s *slab.Slab, r *roll.Roll, at, size, from int) {
	t.Helper()
	for _, next := range row()[from:] {
		appends(t, "7.2", r, next.Seq, next.Body, api.OK)
	}
	holdOpen(t, "7.3", s, at, size, 0, row()...)
	holdDisk(t, "7.3", s, framed(at, size, rows(row()...)))
}

// TestCutAnywhere: at each Append, torn at each byte.
func TestCutAnywhere(t *testing.T) {
	const at, size = 11, 500
	for cut, next := range row() {
		for torn := range len(laid(next.Seq, next.Body, 0)) + 2 {
			s := fallen(t, at, size, cut, torn)
			list := there(cut, torn)
			writes := 0
			if torn > 0 && len(list) == cut {
				writes = chunks(size - len(rows(list...)))
			}
			holdOpen(t, "7.3", s, at, size, writes, list...)
			r := holdOpen(t, "7.3", s, at, size, 0, list...)
			holdDisk(t, "7.3", s, framed(at, size, rows(list...)))
			goesOn(t, s, r, at, size, len(list))
		}
	}
}

// TestOpensFall: behind each such cut Opens fall, too, one after the other, at several Writes and bytes.
func TestOpensFall(t *testing.T) {
	const at, size = 11, 500
	falls := [][][2]int{{{0, 0}}, {{0, 1}}, {{0, 2}, {0, 11}}, {{0, 31}, {1, 1}}, {{0, 32}}, {{1, 0}, {0, 20}, {2, 7}}, {{2, 31}, {2, 31}, {0, 0}}, {{3, 40}, {7, 3}}}
	for cut, next := range row() {
		for torn := range len(laid(next.Seq, next.Body, 0)) + 2 {
			list := there(cut, torn)
			for _, fall := range falls {
				s := fallen(t, at, size, cut, torn)
				for _, c := range fall {
					s.Cut(c[0], c[1])
					if r, e := roll.Open(s, at, size); (e == api.ErrDown) != s.Dead() || (e == api.OK) != (r != nil) {
						t.Errorf("7.1: Open = %v, %d, Dead %t", r, e, s.Dead())
					}
					s.Revive()
				}
				open(t, s, at, size)
				r := holdOpen(t, "7.3", s, at, size, 0, list...)
				goesOn(t, s, r, at, size, len(list))
			}
			if t.Failed() {
				return
			}
		}
	}
}

// TestNothingLeft: what a torn record, or one that is none, has of a later one does not come back when records reach it.
func TestNothingLeft(t *testing.T) {
	first := roll.Record{Seq: 1, Body: "first"}
	short := roll.Record{Seq: 2, Body: "s"}
	head := rows(first)
	// Where short ends stands a whole record, within the body of the torn one: one byte of that is behind its 20 bytes of head.
	within := "-" + laid(3, "comes back", len(rows(first, short)))
	for torn := range 20 + len(within) + 1 {
		s := disk(framed(0, 300, head))
		r := open(t, s, 0, 300)
		s.Cut(0, torn)
		appends(t, "7.2", r, 2, within+strings.Repeat("-", 40), api.ErrDown)
		s.Revive()
		r = open(t, s, 0, 300)
		appends(t, "7.2", r, short.Seq, short.Body, api.OK)
		holdOpen(t, "7.3", s, 0, 300, 0, first, short)
	}
	for _, gap := range []string{"\x00" + laid(2, "", 0)[1:], "\x7f" + laid(2, "", 0)[1:], zeros(20)} {
		text := head + gap + laid(3, "comes back", len(head)+20)
		s := disk(framed(0, 300, text))
		r := open(t, s, 0, 300)
		appends(t, "7.2", r, 2, "", api.OK)
		holdOpen(t, "7.3", s, 0, 300, 0, first, roll.Record{Seq: 2})
	}
}

// place says what a slab must have on it, and when its power goes.
type place struct {
	text   string
	left   int // the Writes ahead of the torn one; below 0: none is torn
	torn   int
	dead   bool
	writes int
}

func (p *place) write(at int, b string) bool {
	if p.dead {
		return false
	}
	p.writes++
	if p.left == 0 {
		b = b[:min(p.torn, len(b))]
		p.dead = true
	}
	p.left = max(p.left-1, -1)
	p.text = p.text[:at] + b + p.text[at+len(b):]
	return !p.dead
}

func (p *place) cut(n, torn int) {
	if !p.dead {
		p.left, p.torn = n, torn
	}
}

func (p *place) revive() {
	p.dead, p.left = false, -1
}

// part says what a roll must answer, by its records alone: of how many bytes they are, and what the next one is above.
type part struct {
	on       *place
	at, size int
	list     []roll.Record
}

func (p *part) used() int {
	return len(rows(p.list...))
}

func (p *part) ahead() int {
	seq := 0
	for _, r := range p.list {
		seq = r.Seq
	}
	return seq
}

// next is the record behind those that p has, found in another way than the roll's: it is whole, if it is what would be laid.
func (p *part) next() (roll.Record, bool) {
	rest := p.on.text[p.at+p.used() : p.at+p.size]
	if len(rest) < 20 {
		return roll.Record{}, false
	}
	seq := int(binary.BigEndian.Uint64([]byte(rest[10:])))
	n, width := binary.Varint([]byte(rest[18:]))
	if seq <= p.ahead() || width <= 0 || n < 0 || n > int64(len(rest)-18-width) {
		return roll.Record{}, false
	}
	body := rest[18+width:][:n]
	return roll.Record{Seq: seq, Body: body}, strings.HasPrefix(rest, laid(seq, body, p.used()))
}

func (p *part) open() (*part, api.Errno) {
	if p.on.dead {
		return nil, api.ErrDown
	}
	made := &part{on: p.on, at: p.at, size: p.size}
	for {
		r, ok := made.next()
		if !ok {
			break
		}
		made.list = append(made.list, r)
	}
	k := made.used()
	if strings.Trim(p.on.text[p.at+k:p.at+p.size], "\x00") == "" {
		return made, api.OK
	}
	for ; k < p.size; k += 32 {
		if !p.on.write(p.at+k, zeros(min(32, p.size-k))) {
			return nil, api.ErrDown
		}
	}
	return made, api.OK
}

func (p *part) append(seq int, body string) api.Errno {
	b := laid(seq, body, p.used())
	switch {
	case seq <= p.ahead() || len(body) > most:
		return api.ErrArg
	case p.used()+len(b) > p.size:
		return api.ErrFull
	case !p.on.write(p.at+p.used(), b):
		return api.ErrDown
	}
	p.list = append(p.list, roll.Record{Seq: seq, Body: body})
	return api.OK
}

// drawnBody is mostly short, at times about as long as one may be, of few bytes, that records have, too.
func drawnBody(r *rand.Rand) string {
	n := r.IntN(40)
	if r.IntN(12) == 0 {
		n = most - 2 + r.IntN(5)
	}
	b := make([]byte, n)
	for i := range b {
		b[i] = "\x00\x01\x7f\x80\x8a\xffab"[r.IntN(8)]
	}
	return string(b)
}

// desk is a slab with two regions, each with a roll, and what must be there.
type desk struct {
	s     *slab.Slab
	on    *place
	rolls []*roll.Roll
	parts []*part
}

func newDesk(t *testing.T, r *rand.Rand) *desk {
	t.Helper()
	one, two := 32+r.IntN(90), 32+r.IntN(500)
	d := &desk{s: slab.New(one + two + 9), on: &place{text: zeros(one + two + 9), left: -1}}
	d.parts = []*part{{on: d.on, at: 4, size: one}, {on: d.on, at: 4 + one, size: two}}
	for _, p := range d.parts {
		d.rolls = append(d.rolls, open(t, d.s, p.at, p.size))
	}
	return d
}

// step has all of them do one drawn thing, and holds their answers together.
func (d *desk) step(t *testing.T, r *rand.Rand) {
	t.Helper()
	k := r.IntN(2)
	p := d.parts[k]
	switch r.IntN(16) {
	case 0:
		n, torn := r.IntN(5)-1, r.IntN(70)
		d.s.Cut(n, torn)
		d.on.cut(n, torn)
	case 1, 2:
		d.s.Revive()
		d.on.revive()
	case 3:
		at, c := r.IntN(len(d.on.text)), string([]byte{byte(r.Uint32())})
		if d.s.Write(at, []byte(c)) != d.on.write(at, c) {
			t.Error("6.1: Write")
		}
	case 4, 5, 6, 7:
		made, e := roll.Open(d.s, p.at, p.size)
		part, want := p.open()
		if e != want || (made != nil) != (want == api.OK) {
			t.Errorf("7.1: Open = %v, %d, want %d", made, e, want)
		} else if e == api.OK {
			d.rolls[k], d.parts[k] = made, part
		}
	default:
		seq, body := p.ahead()+r.IntN(6)-1, drawnBody(r)
		appends(t, "7.2", d.rolls[k], seq, body, p.append(seq, body))
	}
	d.hold(t)
}

func (d *desk) hold(t *testing.T) {
	t.Helper()
	for k, p := range d.parts {
		holdRoll(t, "7.2", d.rolls[k], p.size, p.list...)
	}
	if d.s.Dead() != d.on.dead || d.s.Writes() != d.on.writes {
		t.Errorf("7.1: Dead %t, %d Writes, want %t, %d", d.s.Dead(), d.s.Writes(), d.on.dead, d.on.writes)
	}
	if !d.on.dead {
		holdDisk(t, "7.1", d.s, d.on.text)
	}
}

// TestRuns: drawn runs of all calls, two regions by turns, with cuts, bytes that are turned, and Opens that are left out.
func TestRuns(t *testing.T) {
	r := rand.New(rand.NewPCG(35, 36))
	for range 1500 {
		d := newDesk(t, r)
		for range 60 {
			d.step(t, r)
		}
		if t.Failed() {
			return
		}
	}
}

// TestAllThere: drawn runs in which each fall is followed by an Open, as the theorem says: all that was appended is there,
// of the one under way all or nothing, and opened once more it is the same.
func TestAllThere(t *testing.T) {
	r := rand.New(rand.NewPCG(37, 38))
	for range 600 {
		size := 100 + r.IntN(900)
		s := slab.New(size)
		var list []roll.Record
		on := open(t, s, 0, size)
		for range 40 {
			next := roll.Record{Seq: 1 + r.IntN(3), Body: drawnBody(r)}
			if len(list) > 0 {
				next.Seq += list[len(list)-1].Seq
			}
			if r.IntN(3) == 0 {
				s.Cut(r.IntN(2), r.IntN(70))
			}
			e := on.Append(next.Seq, next.Body)
			if e == api.OK {
				list = append(list, next)
			}
			if e != api.ErrDown {
				continue
			}
			for s.Revive(); r.IntN(2) == 0; s.Revive() {
				s.Cut(r.IntN(4), r.IntN(40))
				if _, e := roll.Open(s, 0, size); (e == api.ErrDown) != s.Dead() {
					t.Errorf("7.1: Open: %d, Dead %t", e, s.Dead())
				}
			}
			on = open(t, s, 0, size)
			if all := append(slices.Clone(list), next); slices.Equal(on.Records(), all) {
				list = all
			}
			holdRoll(t, "7.3", on, size, list...)
			holdOpen(t, "7.3", s, 0, size, 0, list...)
		}
	}
}
