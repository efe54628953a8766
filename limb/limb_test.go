package limb_test

import (
	"math"
	"math/big"
	"math/rand/v2"
	"testing"

	"pyx/limb"
)

const top = math.MaxUint64

type two = [2]uint64

type four = [4]uint64

// edgeWords are those about which carries, borrows, halves and signs turn.
var edgeWords = []uint64{0, 1, 2, 1<<32 - 1, 1 << 32, 1<<63 - 1, 1 << 63, top - 1, top}

// number is the words' value, told by a library that shares no code with limb.
func number(w ...uint64) *big.Int {
	n := new(big.Int)
	for i := len(w) - 1; i >= 0; i-- {
		n.Lsh(n, 64)
		n.Or(n, new(big.Int).SetUint64(w[i]))
	}
	return n
}

func bigTwo(a two) *big.Int   { return number(a[:]...) }
func bigFour(a four) *big.Int { return number(a[:]...) }

func edgeTwos() []two {
	var out []two
	for _, low := range edgeWords {
		for _, high := range edgeWords {
			out = append(out, two{low, high})
		}
	}
	return out
}

// edgeFours takes fewer words than edgeTwos: all fours of nine words, by all twos, would take long.
func edgeFours() []four {
	words := []uint64{0, 1, 1 << 32, 1 << 63, top}
	var out []four
	for _, a := range words {
		for _, b := range words {
			for _, c := range words {
				for _, d := range words {
					out = append(out, four{a, b, c, d})
				}
			}
		}
	}
	return out
}

// drawn calls f with numbers of all lengths: a seed that stands makes each run the same.
func drawn(count int, f func(a four, b two)) {
	r := rand.New(rand.NewPCG(1, 2))
	word := func() uint64 { return r.Uint64() }
	for range count {
		a := limb.Right(four{word(), word(), word(), word()}, r.IntN(257))
		b, _ := limb.Short(limb.Right(four{word(), word()}, r.IntN(129)))
		f(a, b)
	}
}

func TestOf(t *testing.T) {
	for _, n := range edgeWords {
		if got := limb.Of(n); got != (two{n, 0}) {
			t.Errorf("1.1: Of(%d) = %v", n, got)
		}
	}
}

func TestCmp(t *testing.T) {
	for _, c := range []struct {
		a, b two
		want int
	}{
		{two{}, two{}, 0},
		{two{7, 9}, two{7, 9}, 0},
		{two{1, 0}, two{2, 0}, -1},
		{two{top, 0}, two{0, 1}, -1},
		{two{2, 1}, two{1, 2}, -1},
		{two{0, 1<<63 - 1}, two{0, 1 << 63}, -1},
	} {
		if got := limb.Cmp(c.a, c.b); got != c.want {
			t.Errorf("1.1: Cmp(%v, %v) = %d, want %d", c.a, c.b, got, c.want)
		}
		if got := limb.Cmp(c.b, c.a); got != -c.want {
			t.Errorf("1.1: Cmp(%v, %v) = %d, want %d", c.b, c.a, got, -c.want)
		}
	}
	for _, a := range edgeTwos() {
		for _, b := range edgeTwos() {
			if got, want := limb.Cmp(a, b), bigTwo(a).Cmp(bigTwo(b)); got != want {
				t.Errorf("1.1: Cmp(%v, %v) = %d, want %d", a, b, got, want)
			}
		}
	}
}

func TestAdd(t *testing.T) {
	for _, c := range []struct {
		a, b, want two
		ok         bool
	}{
		{two{3, 4}, two{5, 6}, two{8, 10}, true},
		{two{top, 0}, two{1, 0}, two{0, 1}, true},
		{two{top, 7}, two{top, 8}, two{top - 1, 16}, true},
		{two{top, top - 1}, two{1, 0}, two{0, top}, true},
		{two{top, top}, two{}, two{top, top}, true},
		{two{top, top}, two{1, 0}, two{}, false},
		{two{5, 1 << 63}, two{6, 1 << 63}, two{}, false},
		{two{top, 0}, two{1, top}, two{}, false},
		{two{top, top}, two{top, top}, two{}, false},
	} {
		if got, ok := limb.Add(c.a, c.b); got != c.want || ok != c.ok {
			t.Errorf("1.1: Add(%v, %v) = %v, %t, want %v, %t", c.a, c.b, got, ok, c.want, c.ok)
		}
	}
	for _, a := range edgeTwos() {
		for _, b := range edgeTwos() {
			got, ok := limb.Add(a, b)
			want := new(big.Int).Add(bigTwo(a), bigTwo(b))
			if fits := want.BitLen() <= 128; ok != fits {
				t.Errorf("1.1: Add(%v, %v): %t", a, b, ok)
			} else if fits && bigTwo(got).Cmp(want) != 0 || !fits && got != (two{}) {
				t.Errorf("1.1: Add(%v, %v) = %v", a, b, got)
			}
		}
	}
}

func TestSub(t *testing.T) {
	for _, c := range []struct {
		a, b, want two
		ok         bool
	}{
		{two{8, 10}, two{5, 6}, two{3, 4}, true},
		{two{0, 1}, two{1, 0}, two{top, 0}, true},
		{two{3, 5}, two{4, 2}, two{top, 2}, true},
		{two{9, 9}, two{9, 9}, two{}, true},
		{two{top, top}, two{top, top}, two{}, true},
		{two{}, two{1, 0}, two{}, false},
		{two{5, 1}, two{6, 1}, two{}, false},
		{two{top, 0}, two{0, 1}, two{}, false},
		{two{}, two{top, top}, two{}, false},
	} {
		if got, ok := limb.Sub(c.a, c.b); got != c.want || ok != c.ok {
			t.Errorf("1.1: Sub(%v, %v) = %v, %t, want %v, %t", c.a, c.b, got, ok, c.want, c.ok)
		}
	}
	for _, a := range edgeTwos() {
		for _, b := range edgeTwos() {
			got, ok := limb.Sub(a, b)
			want := new(big.Int).Sub(bigTwo(a), bigTwo(b))
			if fits := want.Sign() >= 0; ok != fits {
				t.Errorf("1.1: Sub(%v, %v): %t", a, b, ok)
			} else if fits && bigTwo(got).Cmp(want) != 0 || !fits && got != (two{}) {
				t.Errorf("1.1: Sub(%v, %v) = %v", a, b, got)
			}
		}
	}
}

func TestMul(t *testing.T) {
	for _, c := range []struct {
		a, b two
		want four
	}{
		{two{0, 1}, two{0, 1}, four{0, 0, 1, 0}}, // the chapter's example
		{two{6, 0}, two{7, 0}, four{42}},
		{two{}, two{top, top}, four{}},
		{two{1, 0}, two{top, top}, four{top, top}},
		{two{1 << 32, 0}, two{1 << 32, 0}, four{0, 1}},
		{two{top, 0}, two{top, 0}, four{1, top - 1}},
		{two{top, top}, two{top, top}, four{1, 0, top - 1, top}},
	} {
		if got := limb.Mul(c.a, c.b); got != c.want {
			t.Errorf("1.1: Mul(%v, %v) = %v, want %v", c.a, c.b, got, c.want)
		}
	}
	check := func(a, b two) {
		got := limb.Mul(a, b)
		if want := new(big.Int).Mul(bigTwo(a), bigTwo(b)); bigFour(got).Cmp(want) != 0 {
			t.Errorf("1.1: Mul(%v, %v) = %v", a, b, got)
		}
	}
	for _, a := range edgeTwos() {
		for _, b := range edgeTwos() {
			check(a, b)
		}
	}
	drawn(20000, func(a four, b two) { check(two{a[0], a[1]}, b) })
}

func TestShort(t *testing.T) {
	for _, c := range []struct {
		a    four
		want two
		ok   bool
	}{
		{four{}, two{}, true},
		{four{1, 2, 0, 0}, two{1, 2}, true},
		{four{top, top, 0, 0}, two{top, top}, true},
		{four{1, 2, 3, 0}, two{}, false},
		{four{1, 2, 0, 3}, two{}, false},
		{four{1, 2, 3, 4}, two{}, false},
		{four{0, 0, 0, 1 << 63}, two{}, false},
	} {
		if got, ok := limb.Short(c.a); got != c.want || ok != c.ok {
			t.Errorf("1.1: Short(%v) = %v, %t, want %v, %t", c.a, got, ok, c.want, c.ok)
		}
	}
}

func TestWide(t *testing.T) {
	for _, a := range edgeTwos() {
		if got := limb.Wide(a); got != (four{a[0], a[1], 0, 0}) {
			t.Errorf("1.1: Wide(%v) = %v", a, got)
		}
	}
}

func TestDiv(t *testing.T) {
	for _, c := range []struct {
		a  four
		b  two
		q  four
		r  two
		ok bool
	}{
		{four{17}, two{5}, four{3}, two{2}, true},
		{four{}, two{5}, four{}, two{}, true},
		{four{1, 2, 3, 4}, two{}, four{}, two{}, false},
		{four{}, two{}, four{}, two{}, false},
		{four{1, 2, 3, 4}, two{1}, four{1, 2, 3, 4}, two{}, true},
		{four{7, 0, 0, 1}, two{0, 1}, four{0, 0, 1, 0}, two{7, 0}, true},
		{four{9, 9}, two{8, 10}, four{}, two{9, 9}, true},
		{four{9, 9}, two{9, 9}, four{1}, two{}, true},
		{four{9, 9}, two{10, 9}, four{}, two{9, 9}, true},
		{four{top, top, top, top}, two{top}, four{1, 1, 1, 1}, two{}, true},
		{four{top, top, top, top}, two{top, top}, four{1, 0, 1, 0}, two{}, true},
		{four{top - 1, top, top - 1, top}, two{top, top}, four{top, top}, two{top - 2, top}, true},
	} {
		q, r, ok := limb.Div(c.a, c.b)
		if q != c.q || r != c.r || ok != c.ok {
			t.Errorf("1.2: Div(%v, %v) = %v, %v, %t, want %v, %v, %t", c.a, c.b, q, r, ok, c.q, c.r, c.ok)
		}
	}
}

// TestDivTheorem: the quotient times the divisor, and what is left, is what was divided.
func TestDivTheorem(t *testing.T) {
	check := func(a four, b two) {
		q, r, ok := limb.Div(a, b)
		if b == (two{}) {
			if ok || q != (four{}) || r != (two{}) {
				t.Errorf("1.2: Div(%v, 0) = %v, %v, %t", a, q, r, ok)
			}
			return
		}
		back := new(big.Int).Mul(bigFour(q), bigTwo(b))
		back.Add(back, bigTwo(r))
		if !ok || back.Cmp(bigFour(a)) != 0 || bigTwo(r).Cmp(bigTwo(b)) >= 0 {
			t.Errorf("1.3: Div(%v, %v) = %v, %v, %t", a, b, q, r, ok)
		}
	}
	for _, a := range edgeFours() {
		for _, b := range edgeTwos() {
			check(a, b)
		}
	}
	drawn(20000, check)
}

func TestShift(t *testing.T) {
	a := four{0x8000000000000001, 2, 3, 0xc000000000000005}
	for _, c := range []struct {
		k           int
		left, right four
	}{
		{math.MinInt, a, a},
		{-1, a, a},
		{0, a, a},
		{1, four{2, 5, 6, 0x800000000000000a}, four{0x4000000000000000, 0x8000000000000001, 0x8000000000000001, 0x6000000000000002}},
		{63, four{1 << 63, 0x4000000000000000, 0x8000000000000001, 0x8000000000000001}, four{5, 6, 0x800000000000000a, 1}},
		{64, four{0, a[0], a[1], a[2]}, four{a[1], a[2], a[3], 0}},
		{128, four{0, 0, a[0], a[1]}, four{a[2], a[3], 0, 0}},
		{192, four{0, 0, 0, a[0]}, four{a[3], 0, 0, 0}},
		{255, four{0, 0, 0, 1 << 63}, four{1, 0, 0, 0}},
		{256, four{}, four{}},
		{257, four{}, four{}},
		{math.MaxInt, four{}, four{}},
	} {
		if got := limb.Left(a, c.k); got != c.left {
			t.Errorf("1.2: Left(a, %d) = %x, want %x", c.k, got, c.left)
		}
		if got := limb.Right(a, c.k); got != c.right {
			t.Errorf("1.2: Right(a, %d) = %x, want %x", c.k, got, c.right)
		}
	}
}

// TestShiftAll: each count of bits, held against the other library's shifts.
func TestShiftAll(t *testing.T) {
	all := new(big.Int).Sub(new(big.Int).Lsh(big.NewInt(1), 256), big.NewInt(1))
	for _, a := range []four{{top, top, top, top}, {0x0123456789abcdef, 0xfedcba9876543210, 0x0f1e2d3c4b5a6978, 0x8796a5b4c3d2e1f0}} {
		for k := range 260 {
			left := new(big.Int).Lsh(bigFour(a), uint(k))
			if got := limb.Left(a, k); bigFour(got).Cmp(left.And(left, all)) != 0 {
				t.Errorf("1.2: Left(%x, %d) = %x", a, k, got)
			}
			right := new(big.Int).Rsh(bigFour(a), uint(k))
			if got := limb.Right(a, k); bigFour(got).Cmp(right) != 0 {
				t.Errorf("1.2: Right(%x, %d) = %x", a, k, got)
			}
		}
	}
}

func TestBits(t *testing.T) {
	for _, c := range []struct {
		a    four
		want int
	}{
		{four{}, 0},
		{four{1}, 1},
		{four{top}, 64},
		{four{top, 1}, 65},
		{four{0, 0, 6}, 131},
		{four{1, 1, 1, 1}, 193},
		{four{0, 0, 0, 1 << 63}, 256},
		{four{top, top, top, top}, 256},
	} {
		if got := limb.Bits(c.a); got != c.want {
			t.Errorf("1.2: Bits(%v) = %d, want %d", c.a, got, c.want)
		}
	}
	for k := range 256 {
		if got := limb.Bits(limb.Left(four{1}, k)); got != k+1 {
			t.Errorf("1.2: Bits(2 to the %d) = %d", k, got)
		}
	}
}

func TestTen(t *testing.T) {
	for _, c := range []struct {
		k    int
		want two
		ok   bool
	}{
		{math.MinInt, two{}, false},
		{-1, two{}, false},
		{0, two{1, 0}, true},
		{1, two{10, 0}, true},
		{19, two{10000000000000000000, 0}, true},
		{20, two{7766279631452241920, 5}, true},
		{38, two{687399551400673280, 5421010862427522170}, true},
		{39, two{}, false},
		{math.MaxInt, two{}, false},
	} {
		if got, ok := limb.Ten(c.k); got != c.want || ok != c.ok {
			t.Errorf("1.2: Ten(%d) = %v, %t, want %v, %t", c.k, got, ok, c.want, c.ok)
		}
	}
	for k := range 39 {
		want := new(big.Int).Exp(big.NewInt(10), big.NewInt(int64(k)), nil)
		if got, ok := limb.Ten(k); !ok || bigTwo(got).Cmp(want) != 0 {
			t.Errorf("1.2: Ten(%d) = %v, %t, want %s", k, got, ok, want)
		}
	}
}
