package role_test

import (
	"math"
	"slices"
	"testing"

	"pyx/role"
)

// each calls do with every list of n roles, of parents from low to high; do must not keep it.
func each(n, low, high int, do func(up []int)) {
	up := slices.Repeat([]int{low}, n)
	for {
		do(up)
		at := 0
		for at < n && up[at] == high {
			up[at] = low
			at++
		}
		if at == n {
			return
		}
		up[at]++
	}
}

// eachRight calls do with every list of n roles that is right, by the roles' numbers; do must not keep it.
func eachRight(n int, do func(up []int)) {
	up := make([]int, n)
	var from func(at int)
	from = func(at int) {
		if at == n {
			do(up)
			return
		}
		for parent := -1; parent < at; parent++ {
			up[at] = parent
			from(at + 1)
		}
	}
	from(0)
}

// right is a second telling of Right: among the parents that each role may have is the one that it has.
func right(up []int) bool {
	may := []int{-1}
	for r, parent := range up {
		if !slices.Contains(may, parent) {
			return false
		}
		may = append(may, r)
	}
	return len(up) <= 8
}

// lines are, of each role of a list that is right, the bits of that role, its parent, and so on up.
func lines(up []int) [8]uint64 {
	var list [8]uint64
	for r := range up {
		for k := r; k != -1; k = up[k] {
			list[r] += powers[k]
		}
	}
	return list
}

// odd: the k-th bit of a word is there, by halving.
func odd(word uint64, k int) bool {
	for range k {
		word /= 2
	}
	return word%2 == 1
}

// all is a second telling of All: what the lines of the roles have, of n roles.
func all(lines [8]uint64, n int, roles uint64) uint64 {
	var sum uint64
	for r := range n {
		if odd(roles, r) {
			sum |= lines[r]
		}
	}
	return sum
}

// TestSameRight: every list of at most 5 roles, of parents from -2 on to one beyond the last role.
func TestSameRight(t *testing.T) {
	for n := range 6 {
		count, may := 0, 1
		each(n, -2, n+1, func(up []int) {
			got := role.Right(up)
			if got != right(up) {
				t.Errorf("9.1: Right(%v) = %t", up, got)
			}
			if got {
				count++
			} else if role.All(up, math.MaxUint64) != 0 || role.Has(up, math.MaxUint64, 0) {
				t.Errorf("9.1: %v is not right, and has roles", up)
			}
		})
		for r := range n {
			may *= r + 1
		}
		if count != may {
			t.Errorf("9.1: of %d roles %d lists are right, want %d", n, count, may)
		}
	}
}

// TestSameAll: every set of the roles of every list that is right.
func TestSameAll(t *testing.T) {
	for n := range 9 {
		eachRight(n, func(up []int) {
			if !role.Right(up) {
				t.Fatalf("9.1: Right(%v) = false", up)
			}
			told := lines(up)
			for roles := range uint64(1) << uint(n) {
				if got, want := role.All(up, roles), all(told, n, roles); got != want {
					t.Fatalf("9.1: All(%v, %b) = %b, want %b", up, roles, got, want)
				}
			}
		})
	}
}

// TestSameHas: every role, and ones that are not there, of every set of every list of at most 6 roles that is right.
func TestSameHas(t *testing.T) {
	for n := range 7 {
		eachRight(n, func(up []int) {
			told := lines(up)
			for roles := range uint64(1) << uint(n) {
				want := all(told, n, roles)
				for r := -2; r < 10; r++ {
					if got := role.Has(up, roles, r); got != (r >= 0 && odd(want, r)) {
						t.Fatalf("9.1: Has(%v, %b, %d) = %t", up, roles, r, got)
					}
				}
			}
		})
	}
}

// TestSameHigh: bits for roles that are not there, each one alone and all at once, add nothing.
func TestSameHigh(t *testing.T) {
	for n := range 7 {
		eachRight(n, func(up []int) {
			told := lines(up)
			for roles := range uint64(1) << uint(n) {
				want := all(told, n, roles)
				more := math.MaxUint64 - (uint64(1)<<uint(n) - 1)
				for k := n; k <= 64; k++ {
					if got := role.All(up, roles+more); got != want {
						t.Fatalf("9.1: All(%v, %b) = %b, want %b", up, roles+more, got, want)
					}
					more = uint64(1) << uint(k)
				}
			}
		})
	}
	for _, up := range [][]int{roots(8), line(8), {-1, 0, 0, 1, 1, 2, 2, 3}, {-1, -1, 0, 1, 2, -1, 3, 5}} {
		told := lines(up)
		for roles := range uint64(256) {
			want := all(told, 8, roles)
			for k := 8; k < 64; k++ {
				one := uint64(1) << uint(k)
				if role.All(up, roles+one) != want || role.All(up, roles+math.MaxUint64-255) != want {
					t.Fatalf("9.1: All(%v, %b and bit %d) is not %b", up, roles, k, want)
				}
				if role.Has(up, roles+one, k) || role.Has(up, roles+one, 0) != odd(want, 0) || role.Has(up, roles+one, 7) != odd(want, 7) {
					t.Fatalf("9.1: Has(%v, %b and bit %d)", up, roles, k)
				}
			}
		}
	}
}

// TestAgain: what All answers has all its own parents: asked with that, it answers the same; more roles take nothing away.
func TestAgain(t *testing.T) {
	for n := range 7 {
		eachRight(n, func(up []int) {
			for roles := range uint64(1) << uint(n) {
				first := role.All(up, roles)
				if role.All(up, first) != first || first&roles != roles {
					t.Fatalf("9.1: All(%v, %b) = %b, and of that %b", up, roles, first, role.All(up, first))
				}
				for r := range n {
					both := role.All(up, roles|powers[r])
					if both != first|role.All(up, powers[r]) {
						t.Fatalf("9.1: All(%v, %b) is not what its roles have", up, roles|powers[r])
					}
				}
			}
		})
	}
}
