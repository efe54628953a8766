package mark_test

import (
	"encoding/binary"
	"math/big"
	"math/bits"
	"math/rand/v2"
	"testing"

	"pyx/mark"
)

// back is the word by which a product with the factor is turned into what it was: factor * back is 1, modulo 2^64.
func back() uint64 {
	modulus := new(big.Int).Lsh(big.NewInt(1), 64)
	return new(big.Int).ModInverse(new(big.Int).SetUint64(factor), modulus).Uint64()
}

// unstep is the one word that Stepped by c is h.
func unstep(h uint64, c byte, back uint64) uint64 {
	return bits.RotateLeft64(h*back^uint64(c), -9)
}

// unsum is the one seed of which the Sum of b is h.
func unsum(h uint64, b []byte, back uint64) uint64 {
	h = unstep(h, 255, back)
	for i := range b {
		h = unstep(h, b[len(b)-1-i], back)
	}
	return h
}

func drawnBytes(r *rand.Rand, length int) []byte {
	b := make([]byte, length)
	for i := range b {
		b[i] = byte(r.Uint32())
	}
	return b
}

// drawnWord is a word of any length, at any place.
func drawnWord(r *rand.Rand) uint64 {
	return r.Uint64() >> uint(r.IntN(64)) << uint(r.IntN(64))
}

// bigStep is Step by numbers of any length: the turned word is h times 2^9, with what is at 2^64 and above it added below.
func bigStep(h uint64, c byte) uint64 {
	long := new(big.Int).Lsh(new(big.Int).SetUint64(h), 9)
	top := new(big.Int).Rsh(long, 64)
	mask := new(big.Int).SetUint64(^uint64(0))
	word := new(big.Int).Add(new(big.Int).And(long, mask), top)
	word.Xor(word, big.NewInt(int64(c)))
	word.Mul(word, new(big.Int).SetUint64(factor))
	return word.And(word, mask).Uint64()
}

// TestStepBig: each byte on each of the words, and on drawn ones, as numbers of any length say.
func TestStepBig(t *testing.T) {
	r := rand.New(rand.NewPCG(17, 18))
	list := append([]uint64{}, words...)
	for k := range 64 {
		list = append(list, 1<<uint(k))
	}
	for range 100 {
		list = append(list, drawnWord(r))
	}
	for _, h := range list {
		for c := range 256 {
			if got, want := mark.Step(h, byte(c)), bigStep(h, byte(c)); got != want {
				t.Errorf("5.1: Step(%x, %d) = %x, want %x", h, c, got, want)
			}
		}
	}
}

// TestStepBack: from the Step and the byte there is a way back to the word, so no two words have one Step.
func TestStepBack(t *testing.T) {
	r := rand.New(rand.NewPCG(19, 20))
	back := back()
	for range 200000 {
		h, c := drawnWord(r), byte(r.Uint32())
		if got := unstep(mark.Step(h, c), c, back); got != h {
			t.Errorf("5.2: Step(%x, %d) comes back as %x", h, c, got)
		}
	}
}

// TestSeedBack: from the Sum and the bytes there is a way back to the seed, so no two seeds have one Sum.
func TestSeedBack(t *testing.T) {
	r := rand.New(rand.NewPCG(21, 22))
	back := back()
	for _, seed := range words {
		for length := range 300 {
			b := drawnBytes(r, length)
			if got := unsum(mark.Sum(seed, b), b, back); got != seed {
				t.Errorf("5.2: Sum(%x, %x) comes back as %x", seed, b, got)
			}
		}
	}
}

// TestByteTurned: at each place each other byte is another Sum, and no two of them are the same.
func TestByteTurned(t *testing.T) {
	r := rand.New(rand.NewPCG(23, 24))
	for _, seed := range words {
		for _, length := range []int{1, 2, 3, 8, 9, 40} {
			b := drawnBytes(r, length)
			for k, was := range b {
				seen := map[uint64]int{}
				for c := range 256 {
					b[k] = byte(c)
					sum := mark.Sum(seed, b)
					if other, there := seen[sum]; there {
						t.Errorf("5.2: with %d and %d at %d of %x, seed %x, the Sum is %x", other, c, k, b, seed, sum)
					}
					seen[sum] = c
				}
				b[k] = was
			}
		}
	}
}

// TestByteTurnedFar: that holds however many bytes follow.
func TestByteTurnedFar(t *testing.T) {
	r := rand.New(rand.NewPCG(25, 26))
	b := drawnBytes(r, 3000)
	sum := mark.Sum(27, b)
	for k := range b {
		for place := range 8 {
			b[k] ^= 1 << uint(place)
			if mark.Sum(27, b) == sum {
				t.Errorf("5.2: with bit %d of byte %d turned the Sum is %x, too", place, k, sum)
			}
			b[k] ^= 1 << uint(place)
		}
	}
}

// TestSeedTurned: seeds that are different in one bit, and any two of the words, have different Sums.
func TestSeedTurned(t *testing.T) {
	r := rand.New(rand.NewPCG(27, 28))
	for length := range 50 {
		b := drawnBytes(r, length)
		seen := map[uint64]uint64{}
		for _, seed := range words {
			sum := mark.Sum(seed, b)
			if other, there := seen[sum]; there {
				t.Errorf("5.2: seeds %x and %x have the Sum %x of %x", other, seed, sum, b)
			}
			seen[sum] = seed
			for place := range 64 {
				if mark.Sum(seed^1<<uint(place), b) == sum {
					t.Errorf("5.2: with bit %d of seed %x turned the Sum of %x is %x, too", place, seed, b, sum)
				}
			}
		}
	}
}

// TestBytesSame: as a library says that shares no code with mark.
func TestBytesSame(t *testing.T) {
	r := rand.New(rand.NewPCG(29, 30))
	list := append([]uint64{}, words...)
	for k := range 64 {
		list = append(list, 1<<uint(k), ^uint64(1<<uint(k)))
	}
	for range 10000 {
		list = append(list, drawnWord(r))
	}
	for _, h := range list {
		b := mark.Bytes(h)
		if want := binary.BigEndian.AppendUint64(nil, h); string(b) != string(want) {
			t.Errorf("5.1: Bytes(%x) = %x, want %x", h, b, want)
		}
	}
}
