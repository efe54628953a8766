package role_test

import (
	"math"
	"slices"
	"testing"

	"pyx/role"
)

// powers are the bits of the roles that may be, written out.
var powers = []uint64{1, 2, 4, 8, 16, 32, 64, 128}

// set is the bits of roles, one by one.
func set(roles ...int) uint64 {
	var sum uint64
	for _, r := range roles {
		sum += powers[r]
	}
	return sum
}

// ends are numbers that no role has, of a list of at most 8.
var ends = []int{math.MinInt, math.MinInt + 1, -1 << 32, -65, -64, -63, -8, -2, -1, 8, 9, 31, 32, 63, 64, 65, 127, 128, 256, 1 << 32, 1<<32 + 1, math.MaxInt - 1, math.MaxInt}

// roots are n roles without parents.
func roots(n int) []int {
	return slices.Repeat([]int{-1}, n)
}

// line is n roles, each with the one ahead of it as its parent.
func line(n int) []int {
	var up []int
	for r := range n {
		up = append(up, r-1)
	}
	return up
}

func TestExample(t *testing.T) {
	if got := role.All([]int{-1, 0, 1}, 4); got != 7 {
		t.Errorf("9.1: All({2}) = %b, want {0 1 2}", got)
	}
}

func TestRight(t *testing.T) {
	cases := []struct {
		up   []int
		want bool
	}{
		{nil, true},
		{[]int{}, true},
		{[]int{-1}, true},
		{[]int{0}, false},
		{[]int{1}, false},
		{[]int{-2}, false},
		{[]int{math.MinInt}, false},
		{[]int{math.MaxInt}, false},
		{[]int{-1, -1}, true},
		{[]int{-1, 0}, true},
		{[]int{-1, 1}, false},
		{[]int{-1, 2}, false},
		{[]int{-1, -2}, false},
		{[]int{0, 0}, false},
		{[]int{1, 0}, false},
		{[]int{1, -1}, false},
		{[]int{-1, 0, 1}, true},
		{[]int{-1, 0, 0}, true},
		{[]int{-1, -1, 1}, true},
		{[]int{-1, 2, 0}, false},
		{[]int{-1, 2, 1}, false},
		{[]int{-1, 0, 2}, false},
		{[]int{-1, 0, 3}, false},
		{[]int{-1, -1, 0, 2, 2, 1, 0, 6}, true},
		{[]int{-1, 0, 0, 0, 0, 0, 0, 0}, true},
		{[]int{-1, 0, 1, 2, 3, 4, 5, 6}, true},
		{[]int{-1, 0, 1, 2, 3, 4, 5, 7}, false},
		{[]int{-1, 0, 1, 2, 3, 4, 5, 8}, false},
		{[]int{-1, 0, 1, 2, 3, 4, 5, 6, 7}, false},
		{[]int{-1, 0, 1, 2, 3, 4, 5, 6, -1}, false},
	}
	for _, c := range cases {
		if got := role.Right(c.up); got != c.want {
			t.Errorf("9.1: Right(%v) = %t", c.up, got)
		}
	}
}

// TestRightMany: as many roles as may be, and more, each of a parent that may be.
func TestRightMany(t *testing.T) {
	for _, n := range []int{0, 1, 2, 3, 4, 5, 6, 7, 8, 9, 10, 15, 16, 17, 63, 64, 65, 128, 255, 256, 257, 264, 65536, 65544} {
		for _, up := range [][]int{roots(n), line(n)} {
			if got := role.Right(up); got != (n <= 8) {
				t.Errorf("9.1: Right of %d roles = %t", n, got)
			}
		}
	}
}

// TestRightPlace: at each place of a list that is right, each parent that may be, and ones that may not.
func TestRightPlace(t *testing.T) {
	for n := 1; n <= 8; n++ {
		for _, up := range [][]int{roots(n), line(n)} {
			for at := range n {
				was := up[at]
				for parent := -1; parent < at; parent++ {
					up[at] = parent
					if !role.Right(up) {
						t.Errorf("9.1: Right(%v) = false", up)
					}
				}
				for _, parent := range append([]int{at, at + 1, at + 2, n - 1, n, -3, 7}, ends...) {
					if parent >= -1 && parent < at {
						continue
					}
					up[at] = parent
					if role.Right(up) {
						t.Errorf("9.1: Right(%v) = true", up)
					}
				}
				up[at] = was
			}
		}
	}
}

func TestAll(t *testing.T) {
	chain, star, single := line(8), []int{-1, 0, 0, 0, 0, 0, 0, 0}, roots(8)
	tree := []int{-1, 0, 0, 1, 1, 2, 2, 3}
	several := []int{-1, -1, 0, 1, 2, -1, 3, 5}
	cases := []struct {
		up    []int
		roles []int
		want  []int
	}{
		{nil, []int{0}, nil},
		{[]int{}, []int{0, 7}, nil},
		{[]int{-1}, nil, nil},
		{[]int{-1}, []int{0}, []int{0}},
		{[]int{-1}, []int{0, 1}, []int{0}},
		{[]int{-1}, []int{1}, nil},
		{chain, nil, nil},
		{chain, []int{0}, []int{0}},
		{chain, []int{1}, []int{0, 1}},
		{chain, []int{4}, []int{0, 1, 2, 3, 4}},
		{chain, []int{7}, []int{0, 1, 2, 3, 4, 5, 6, 7}},
		{chain, []int{1, 3}, []int{0, 1, 2, 3}},
		{star, []int{0}, []int{0}},
		{star, []int{5}, []int{0, 5}},
		{star, []int{7}, []int{0, 7}},
		{star, []int{2, 7}, []int{0, 2, 7}},
		{single, []int{0}, []int{0}},
		{single, []int{7}, []int{7}},
		{single, []int{1, 4, 6}, []int{1, 4, 6}},
		{tree, []int{0}, []int{0}},
		{tree, []int{3}, []int{0, 1, 3}},
		{tree, []int{6}, []int{0, 2, 6}},
		{tree, []int{7}, []int{0, 1, 3, 7}},
		{tree, []int{4, 5}, []int{0, 1, 2, 4, 5}},
		{several, []int{4}, []int{0, 2, 4}},
		{several, []int{6}, []int{1, 3, 6}},
		{several, []int{7}, []int{5, 7}},
		{several, []int{2, 7}, []int{0, 2, 5, 7}},
		{several, []int{4, 6, 7}, []int{0, 1, 2, 3, 4, 5, 6, 7}},
	}
	for _, c := range cases {
		if got := role.All(c.up, set(c.roles...)); got != set(c.want...) {
			t.Errorf("9.1: All(%v, %v) = %b, want %v", c.up, c.roles, got, c.want)
		}
		for r := range 8 {
			if got := role.Has(c.up, set(c.roles...), r); got != slices.Contains(c.want, r) {
				t.Errorf("9.1: Has(%v, %v, %d) = %t", c.up, c.roles, r, got)
			}
		}
	}
}

// wrong are lists that are not right.
func wrong() [][]int {
	return [][]int{
		{0}, {1}, {-2}, {math.MinInt}, {math.MaxInt}, {7}, {63}, {64},
		{-1, 1}, {-1, 2}, {-1, -2}, {0, 0}, {1, 0}, {1, -1}, {-1, 64},
		{-1, 2, 0}, {-1, 2, 1}, {2, 0, 1}, {-1, 0, 2}, {-1, -2, 1}, {math.MinInt, 0, 1}, {-1, math.MaxInt, 1}, {-1, 0, math.MinInt},
		{-1, 0, 1, 2, 3, 4, 5, 7}, {-1, 0, 1, 2, 3, 4, 5, -2}, {-1, 0, 1, 3, 3, 4, 5, 6}, {0, 0, 1, 2, 3, 4, 5, 6},
		roots(9), line(9), append(line(8), 0), roots(64), line(64), roots(65), line(65), line(1000),
	}
}

// TestWrong: of a list that is not right there is no role, whatever is asked.
func TestWrong(t *testing.T) {
	for _, up := range wrong() {
		if role.Right(up) {
			t.Errorf("9.1: Right(%v) = true", up)
		}
		for _, roles := range []uint64{0, 1, 2, 3, 4, 128, 255, 256, 1 << 32, 1 << 62, 1 << 63, math.MaxUint64} {
			if got := role.All(up, roles); got != 0 {
				t.Errorf("9.1: All(%v, %b) = %b", up, roles, got)
			}
			for r := -2; r < 70; r++ {
				if role.Has(up, roles, r) {
					t.Errorf("9.1: Has(%v, %b, %d) = true", up, roles, r)
				}
			}
			for _, r := range ends {
				if role.Has(up, roles, r) {
					t.Errorf("9.1: Has(%v, %b, %d) = true", up, roles, r)
				}
			}
		}
	}
}

// TestHasNone: a number that no role has is not among All, whatever bits are there.
func TestHasNone(t *testing.T) {
	for n := range 9 {
		for _, up := range [][]int{roots(n), line(n)} {
			for _, roles := range []uint64{0, 1, 128, 255, 256, 1 << 63, math.MaxUint64 - 255, math.MaxUint64} {
				for _, r := range append([]int{n, n + 1, n + 64, n - 64, -n - 1}, ends...) {
					if role.Has(up, roles, r) {
						t.Errorf("9.1: Has(%v, %b, %d) = true", up, roles, r)
					}
				}
			}
		}
	}
}

// TestHandedIn: the list is not changed, nor the room behind it, and not kept: another one in its place is another one.
func TestHandedIn(t *testing.T) {
	lists := append(wrong(), nil, []int{}, []int{-1}, roots(8), line(8), []int{-1, -1, 0, 2, 2, 1, 0, 6})
	for _, list := range lists {
		whole := append(slices.Clone(list), -9, 0, 12)
		was := slices.Clone(whole)
		up := whole[:len(list)]
		for _, roles := range []uint64{0, 1, 4, 255, 256, math.MaxUint64} {
			role.Right(up)
			role.All(up, roles)
			for _, r := range []int{-1, 0, 1, 7, 8, 64} {
				role.Has(up, roles, r)
			}
		}
		if !slices.Equal(whole, was) {
			t.Errorf("R2: %v, with its room, is %v", was, whole)
		}
	}
	up := line(3)
	first := role.All(up, 4)
	up[2] = -1
	if second := role.All(up, 4); first != 7 || second != 4 || role.Has(up, 4, 1) {
		t.Errorf("R4: All(-1 0 1, {2}) = %b, All(-1 0 -1, {2}) = %b", first, second)
	}
	up[2] = 2
	if role.Right(up) || role.All(up, 4) != 0 || role.Has(up, 4, 2) {
		t.Error("R4: -1 0 2 is told as a list that was there ahead of it")
	}
}
