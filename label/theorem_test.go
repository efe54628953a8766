package label_test

import (
	"math/rand/v2"
	"testing"

	"pyx/api"
	"pyx/label"
)

// places says of each of the 64 bits of a Set if it is there, by halving.
func places(set uint64) (there [64]bool) {
	for k := range there {
		there[k] = set%2 == 1
		set /= 2
	}
	return there
}

// below, join and meet are a second telling of 8.1, bit by bit.
func below(a, b api.Label) bool {
	inA, inB := places(a.Set), places(b.Set)
	for k := range inA {
		if inA[k] && !inB[k] {
			return false
		}
	}
	return a.Level <= b.Level
}

func join(a, b api.Label) api.Label {
	c := mixed(a, b, func(inA, inB bool) bool { return inA || inB })
	if b.Level > a.Level {
		c.Level = b.Level
	}
	return c
}

func meet(a, b api.Label) api.Label {
	c := mixed(a, b, func(inA, inB bool) bool { return inA && inB })
	if b.Level < a.Level {
		c.Level = b.Level
	}
	return c
}

// mixed has the bits for which has says so, and a's Level.
func mixed(a, b api.Label, has func(inA, inB bool) bool) api.Label {
	inA, inB := places(a.Set), places(b.Set)
	c := api.Label{Level: a.Level}
	for k := len(inA) - 1; k >= 0; k-- {
		c.Set *= 2
		if has(inA[k], inB[k]) {
			c.Set++
		}
	}
	return c
}

// same holds the three calls against the second telling.
func same(t *testing.T, a, b api.Label) {
	t.Helper()
	if got, want := label.Below(a, b), below(a, b); got != want {
		t.Errorf("8.1: Below(%+v, %+v) = %t", a, b, got)
	}
	if got, want := label.Join(a, b), join(a, b); got != want {
		t.Errorf("8.1: Join(%+v, %+v) = %+v, want %+v", a, b, got, want)
	}
	if got, want := label.Meet(a, b), meet(a, b); got != want {
		t.Errorf("8.1: Meet(%+v, %+v) = %+v, want %+v", a, b, got, want)
	}
}

func drawnLabel(r *rand.Rand) api.Label {
	set := r.Uint64() >> uint(r.IntN(65)) << uint(r.IntN(64))
	if r.IntN(2) == 0 {
		return l(set, r.IntN(8)-2)
	}
	return l(set, levels[r.IntN(len(levels))])
}

// TestSameRight: of all pairs of labels that are right.
func TestSameRight(t *testing.T) {
	list := rightLabels()
	for _, a := range list {
		for _, b := range list {
			same(t, a, b)
		}
	}
}

// TestSameAny: of pairs of labels that are right and ones that are not, of drawn ones, and of drawn ones with
// themselves, with a bit more, a Level more, or a bit and a Level less.
func TestSameAny(t *testing.T) {
	list := anyLabels()
	for _, a := range list {
		for _, b := range list {
			same(t, a, b)
		}
	}
	r := rand.New(rand.NewPCG(35, 36))
	for range 20000 {
		a := drawnLabel(r)
		same(t, a, drawnLabel(r))
		for _, b := range []api.Label{a, l(a.Set|1<<uint(r.IntN(64)), a.Level), l(a.Set, a.Level+1), l(a.Set&^(1<<uint(r.IntN(64))), a.Level-1)} {
			same(t, a, b)
			same(t, b, a)
		}
	}
}

// many is the greatest number of labels that holdsOrder takes.
const many = 1024

// row says of which labels, by their numbers.
type row [many / 64]uint64

func (w *row) put(k int) { w[k/64] |= 1 << uint(k%64) }

// common is what both have.
func (w row) common(v row) row {
	for k := range w {
		w[k] &= v[k]
	}
	return w
}

// rows are, of each label of the list, which ones are above it and which below, as Below says.
func rows(list []api.Label) (above, under []row) {
	above, under = make([]row, len(list)), make([]row, len(list))
	for i, a := range list {
		for k, b := range list {
			if label.Below(a, b) {
				above[i].put(k)
				under[k].put(i)
			}
		}
	}
	return above, under
}

// holdsOrder holds 8.3 over all labels of a list that has, with two of them, their Join and their Meet.
func holdsOrder(t *testing.T, list []api.Label) {
	t.Helper()
	number := map[api.Label]int{}
	for k, a := range list {
		number[a] = k
	}
	above, under := rows(list)
	for i, a := range list {
		if !label.Below(a, a) {
			t.Errorf("8.3: %+v is not below itself", a)
		}
		for k, b := range list {
			if label.Below(a, b) && label.Below(b, a) && a != b {
				t.Errorf("8.3: %+v and %+v are below one another", a, b)
			}
			// What is above b is above all that is below b.
			if label.Below(a, b) && above[k].common(above[i]) != above[k] {
				t.Errorf("8.3: %+v is below %+v, and not below all that is above that", a, b)
			}
			j, there := number[label.Join(a, b)]
			if !there || !label.Below(a, list[j]) || !label.Below(b, list[j]) {
				t.Errorf("8.3: the Join of %+v and %+v is not above both", a, b)
			}
			// What is above both is just what is above the Join.
			if above[i].common(above[k]) != above[j] {
				t.Errorf("8.3: the Join of %+v and %+v is not the least above both", a, b)
			}
			m, there := number[label.Meet(a, b)]
			if !there || !label.Below(list[m], a) || !label.Below(list[m], b) {
				t.Errorf("8.3: the Meet of %+v and %+v is not below both", a, b)
			}
			if under[i].common(under[k]) != under[m] {
				t.Errorf("8.3: the Meet of %+v and %+v is not the greatest below both", a, b)
			}
		}
	}
}

// TestOrder: over all labels that are right.
func TestOrder(t *testing.T) {
	list := rightLabels()
	for _, a := range list {
		if !label.Right(a) {
			t.Errorf("8.1: Right(%+v) = false", a)
		}
	}
	holdsOrder(t, list)
}

// TestOrderAny: it holds of labels that are not right, too: of all Sets of some bits, at any places, and any Levels.
func TestOrderAny(t *testing.T) {
	var list []api.Label
	for _, level := range levels {
		for pick := range 32 {
			var set uint64
			for k, bit := range []uint64{1, 128, 256, 1 << 40, 1 << 63} {
				if places(uint64(pick))[k] {
					set += bit
				}
			}
			list = append(list, l(set, level))
		}
	}
	holdsOrder(t, list)
}

// TestRightStays: of two labels that are right the Join and the Meet are right, too.
func TestRightStays(t *testing.T) {
	list := rightLabels()
	for _, a := range list {
		for _, b := range list {
			if !label.Right(label.Join(a, b)) || !label.Right(label.Meet(a, b)) {
				t.Errorf("8.1: of %+v and %+v the Join is %+v, the Meet %+v", a, b, label.Join(a, b), label.Meet(a, b))
			}
		}
	}
}

// TestOneByOne: a label is the Join of what Of says of each of its entities, and of its Level without any.
func TestOneByOne(t *testing.T) {
	for _, a := range rightLabels() {
		whole := label.Of(-1, a.Level)
		for _, ent := range label.Members(a) {
			whole = label.Join(whole, label.Of(ent, 0))
		}
		if whole != a {
			t.Errorf("8.1: %+v, one by one, is %+v", a, whole)
		}
	}
}
