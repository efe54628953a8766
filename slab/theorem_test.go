package slab_test

import (
	"math"
	"math/rand/v2"
	"testing"

	"pyx/slab"
)

// disk says what a slab must answer, by all that it was told since the last Cut or Revive, and a text that is made anew by each Write.
type disk struct {
	there  string
	count  int
	behind []bool // the Writes that may be, since the Cut: it is dead behind the torn one
	at     int    // the number of the torn one among them, below 0: none
	torn   int
}

func newDisk(size int) *disk {
	return &disk{there: string(make([]byte, size)), at: -1}
}

func (d *disk) dead() bool {
	return len(d.behind) > 0 && !d.behind[len(d.behind)-1]
}

func (d *disk) inside(at, n int) bool {
	for _, place := range []int{at, n} {
		if place < 0 || place > len(d.there) {
			return false
		}
	}
	return at+n <= len(d.there)
}

func (d *disk) read(at, n int) (string, bool) {
	if d.dead() || !d.inside(at, n) {
		return "", false
	}
	return d.there[at : at+n], true
}

func (d *disk) write(at int, b string) bool {
	if d.dead() || !d.inside(at, len(b)) {
		return false
	}
	d.count++
	well := len(d.behind) != d.at
	d.behind = append(d.behind, well)
	for !well && len(b) > 0 && len(b) > d.torn {
		b = b[:len(b)-1]
	}
	d.there = d.there[:at] + b + d.there[at+len(b):]
	return well
}

func (d *disk) cut(n, torn int) {
	if !d.dead() {
		d.behind, d.at, d.torn = nil, max(n, -1), torn
	}
}

func (d *disk) revive() {
	d.behind, d.at = nil, -1
}

// drawnNumber is mostly near what a slab of that size has, at times far from it.
func drawnNumber(r *rand.Rand, size int) int {
	far := []int{math.MinInt, math.MinInt + 1, -1 << 32, 1 << 32, math.MaxInt - size, math.MaxInt - 1, math.MaxInt}
	if r.IntN(20) == 0 {
		return far[r.IntN(len(far))]
	}
	return r.IntN(size+4) - 2
}

func drawnBytes(r *rand.Rand, length int) []byte {
	b := make([]byte, length)
	for i := range b {
		b[i] = byte(r.Uint32())
	}
	return b
}

// step has the slab and the disk do one drawn thing, and holds their answers together.
func step(t *testing.T, r *rand.Rand, s *slab.Slab, d *disk) {
	t.Helper()
	size := len(d.there)
	switch r.IntN(10) {
	case 0:
		n, torn := r.IntN(6)-2, drawnNumber(r, size)
		s.Cut(n, torn)
		d.cut(n, torn)
	case 1:
		s.Revive()
		d.revive()
	case 2, 3, 4:
		at, n := drawnNumber(r, size), drawnNumber(r, size)
		b, ok := s.Read(at, n)
		if want, well := d.read(at, n); string(b) != want || ok != well {
			t.Errorf("6.1: Read(%d, %d) = %x, %t, want %x, %t", at, n, b, ok, want, well)
		}
	default:
		at, b := drawnNumber(r, size), drawnBytes(r, r.IntN(size+2))
		if ok, well := s.Write(at, b), d.write(at, string(b)); ok != well {
			t.Errorf("6.1: Write(%d, %x) = %t, want %t", at, b, ok, well)
		}
	}
	if s.Size() != size || s.Writes() != d.count || s.Dead() != d.dead() {
		t.Errorf("6.2: Size %d, Writes %d, Dead %t, want %d, %d, %t", s.Size(), s.Writes(), s.Dead(), size, d.count, d.dead())
	}
}

// TestRuns: drawn runs of all calls, several slabs by turns, as the disks say.
func TestRuns(t *testing.T) {
	r := rand.New(rand.NewPCG(31, 32))
	for range 2000 {
		var slabs []*slab.Slab
		var disks []*disk
		for range 3 {
			size := 1 + r.IntN(12)
			slabs, disks = append(slabs, slab.New(size)), append(disks, newDisk(size))
		}
		for range 120 {
			k := r.IntN(3)
			step(t, r, slabs[k], disks[k])
		}
		for k, s := range slabs {
			s.Revive()
			holds(t, "6.2", s, disks[k].there)
		}
		if t.Failed() {
			return
		}
	}
}

// TestCutAnywhere: of a row of Writes, cut behind each number of them and torn at each byte,
// what is there is all of those ahead, the first bytes of the torn one, and nothing of those behind.
func TestCutAnywhere(t *testing.T) {
	r := rand.New(rand.NewPCG(33, 34))
	const size, rows = 40, 12
	var places []int
	var parts [][]byte
	for range rows {
		n := r.IntN(20)
		places, parts = append(places, r.IntN(size-n+1)), append(parts, drawnBytes(r, n))
	}
	for cut := range rows {
		for torn := range len(parts[cut]) + 1 {
			s := slab.New(size)
			s.Cut(cut, torn)
			want := make([]byte, size)
			for k, b := range parts {
				if ok := s.Write(places[k], b); ok != (k < cut) || s.Dead() != (k >= cut) {
					t.Errorf("6.2: Cut(%d, %d): Write %d is %t, Dead %t", cut, torn, k, ok, s.Dead())
				}
				if k < cut {
					copy(want[places[k]:], b)
				}
			}
			copy(want[places[cut]:], parts[cut][:torn])
			if s.Writes() != cut+1 {
				t.Errorf("6.1: Cut(%d, %d): Writes() = %d", cut, torn, s.Writes())
			}
			s.Revive()
			holds(t, "6.2", s, string(want))
		}
	}
}
