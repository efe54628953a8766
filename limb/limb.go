// Package limb: numbers of two words, and of four, the lowest word first: see DOC.md, chapter 1.
package limb

const (
	halfBits = 32
	wordBits = 64
	allBits  = 4 * wordBits
	maxTen   = 38 // ten to the 39 has no room in two words
)

// Of is n as a number of two words.
func Of(n uint64) [2]uint64 {
	return [2]uint64{n, 0}
}

// Cmp is -1, 0 or 1, as a is below b, b, or above it.
func Cmp(a, b [2]uint64) int {
	switch {
	case a == b:
		return 0
	case a[1] < b[1] || a[1] == b[1] && a[0] < b[0]:
		return -1
	}
	return 1
}

// Add is a and b; false, if the sum has no room in two words.
func Add(a, b [2]uint64) ([2]uint64, bool) {
	low, carry := addWord(a[0], b[0], 0)
	high, carry := addWord(a[1], b[1], carry)
	if carry != 0 {
		return [2]uint64{}, false
	}
	return [2]uint64{low, high}, true
}

// Sub is a without b; false, if b is above a.
func Sub(a, b [2]uint64) ([2]uint64, bool) {
	if Cmp(a, b) < 0 {
		return [2]uint64{}, false
	}
	return wrapSub(a, b), true
}

// Mul is the whole product.
func Mul(a, b [2]uint64) [4]uint64 {
	x, y := halves(a), halves(b)
	var p [8]uint32
	for i, m := range x {
		var carry uint64
		for j, n := range y {
			// The greatest halves' product, with two more halves, is just the greatest word: no bit is lost.
			sum := uint64(m)*uint64(n) + uint64(p[i+j]) + carry
			p[i+j] = uint32(sum)
			carry = sum >> halfBits
		}
		p[i+len(y)] = uint32(carry)
	}
	return words(p)
}

// Short is the lower two words; false, if there is something in the others.
func Short(a [4]uint64) ([2]uint64, bool) {
	if a[2] != 0 || a[3] != 0 {
		return [2]uint64{}, false
	}
	return [2]uint64{a[0], a[1]}, true
}

// Wide is a with two words of 0 behind.
func Wide(a [2]uint64) [4]uint64 {
	return [4]uint64{a[0], a[1], 0, 0}
}

// Div is a by b, and what is left; false, if b is 0.
func Div(a [4]uint64, b [2]uint64) (q [4]uint64, r [2]uint64, ok bool) {
	if b == Of(0) {
		return q, r, false
	}
	for k := Bits(a) - 1; k >= 0; k-- {
		word, at := k/wordBits, uint(k%wordBits)
		var over uint64
		r, over = double(r, a[word]>>at&1)
		// r was below b, so that b goes into it once at most; where a bit went over,
		// it is above b, and that bit is gone when the difference wraps round.
		if over != 0 || Cmp(r, b) >= 0 {
			r = wrapSub(r, b)
			q[word] |= 1 << at
		}
	}
	return q, r, true
}

// Left is a shifted by k bits towards the higher ones.
func Left(a [4]uint64, k int) [4]uint64 {
	skip, rest := shift(k)
	var out [4]uint64
	for i := skip; i < len(out); i++ {
		out[i] = a[i-skip] << rest
		if i > skip {
			// Where rest is 0 this shifts by a whole word, which leaves 0.
			out[i] |= a[i-skip-1] >> (wordBits - rest)
		}
	}
	return out
}

// Right is a shifted by k bits towards the lower ones.
func Right(a [4]uint64, k int) [4]uint64 {
	skip, rest := shift(k)
	var out [4]uint64
	for i := skip; i < len(a); i++ {
		out[i-skip] = a[i] >> rest
		if i+1 < len(a) {
			// Where rest is 0 this shifts by a whole word, which leaves 0.
			out[i-skip] |= a[i+1] << (wordBits - rest)
		}
	}
	return out
}

// Bits is how many bits a has, from its highest 1 down.
func Bits(a [4]uint64) int {
	for i := len(a) - 1; i >= 0; i-- {
		if a[i] != 0 {
			return i*wordBits + bitsOfWord(a[i])
		}
	}
	return 0
}

// Ten is ten to the k; false, if k is not 0 to 38.
func Ten(k int) ([2]uint64, bool) {
	if k < 0 || k > maxTen {
		return [2]uint64{}, false
	}
	n := Of(1)
	for range k {
		n, _ = Short(Mul(n, Of(10)))
	}
	return n, true
}

// addWord is a, b and a carry of 0 or 1, and the carry of their sum.
func addWord(a, b, carry uint64) (sum, over uint64) {
	sum = a + b + carry
	// Of the highest bits two, or one that is not in the sum any more, went over.
	over = (a&b | (a|b)&^sum) >> (wordBits - 1)
	return sum, over
}

// wrapSub is a without b; where b is above a, it wraps round at 2 to the 128.
func wrapSub(a, b [2]uint64) [2]uint64 {
	var borrow uint64
	if a[0] < b[0] {
		borrow = 1
	}
	return [2]uint64{a[0] - b[0], a[1] - b[1] - borrow}
}

// double is twice a, with bit at its low end, and the bit that leaves at its high end.
func double(a [2]uint64, bit uint64) (twice [2]uint64, over uint64) {
	const last = wordBits - 1
	return [2]uint64{a[0]<<1 | bit, a[1]<<1 | a[0]>>last}, a[1] >> last
}

// shift is k, brought within 0 to all bits, as whole words and what remains.
func shift(k int) (skip int, rest uint) {
	k = min(max(k, 0), allBits)
	return k / wordBits, uint(k % wordBits)
}

func bitsOfWord(w uint64) int {
	n := 0
	for ; w != 0; w >>= 1 {
		n++
	}
	return n
}

func halves(a [2]uint64) [4]uint32 {
	return [4]uint32{
		uint32(a[0]), uint32(a[0] >> halfBits),
		uint32(a[1]), uint32(a[1] >> halfBits),
	}
}

func words(h [8]uint32) [4]uint64 {
	var out [4]uint64
	for i := range out {
		out[i] = uint64(h[2*i]) | uint64(h[2*i+1])<<halfBits
	}
	return out
}
