package quant_test

import (
	"fmt"
	"math/big"
	"math/rand/v2"
	"testing"

	"pyx/api"
	"pyx/dec"
	"pyx/limb"
	"pyx/quant"
)

var one = big.NewInt(1)

func tenTo(k int) *big.Int {
	return new(big.Int).Exp(big.NewInt(10), big.NewInt(int64(k)), nil)
}

// value is a's value, told by a library that shares no code with quant.
func value(a api.Dec) *big.Rat {
	n := new(big.Int).SetUint64(a.C[1])
	n.Lsh(n, 64).Or(n, new(big.Int).SetUint64(a.C[0]))
	if a.Neg {
		n.Neg(n)
	}
	return new(big.Rat).SetFrac(n, tenTo(a.Scale))
}

// ratio is x by y.
func ratio(x, y *big.Rat) *big.Rat { return new(big.Rat).Quo(x, y) }

// picked is what the chapter says of each mode, of a value in steps.
func picked(v *big.Rat, mode int) *big.Int {
	// As the denominator is above 0, Div goes down to the lesser one.
	less := new(big.Int).Div(v.Num(), v.Denom())
	if v.IsInt() {
		return less
	}
	more := new(big.Int).Add(less, one)
	near, far := less, more
	if v.Sign() < 0 {
		near, far = more, less
	}
	size := new(big.Rat).Abs(v)
	middle := new(big.Rat).Add(new(big.Rat).SetInt(new(big.Int).Abs(near)), big.NewRat(1, 2))
	side := size.Cmp(middle)
	even := near.Bit(0) == 0
	switch {
	case mode == quant.Down, mode >= quant.HalfUp && side < 0, mode == quant.HalfEven && side == 0 && even:
		return near
	case mode == quant.Floor:
		return less
	}
	return far
}

// hold holds an answer, of a value and a step, against the mode's words and against the theorem.
func hold(t *testing.T, call string, got api.Dec, e api.Errno, v, step *big.Rat, scale, mode int) {
	t.Helper()
	count := picked(ratio(v, step), mode)
	want := new(big.Rat).Mul(new(big.Rat).SetInt(count), step)
	number := new(big.Rat).Mul(want, new(big.Rat).SetInt(tenTo(scale)))
	if !number.IsInt() || new(big.Int).Abs(number.Num()).Cmp(tenTo(api.Digits)) >= 0 {
		if e != api.ErrOver || got != (api.Dec{}) {
			t.Errorf("3.1: %s, mode %d = %+v, %d, want ErrOver", call, mode, got, e)
		}
		return
	}
	if e != api.OK || !dec.Right(got) || got.Scale != scale || value(got).Cmp(want) != 0 {
		t.Errorf("3.1: %s, mode %d = %+v, %d, want %s", call, mode, got, e, want.FloatString(scale))
		return
	}
	off := ratio(new(big.Rat).Sub(value(got), v), step)
	off.Abs(off)
	half := mode == quant.HalfUp || mode == quant.HalfEven
	if off.Cmp(big.NewRat(1, 1)) >= 0 || half && off.Cmp(big.NewRat(1, 2)) > 0 {
		t.Errorf("3.2: %s, mode %d = %+v: %s steps off", call, mode, got, off.FloatString(3))
	}
}

// holdAll holds all calls of two decimals and a scale.
func holdAll(t *testing.T, a, b api.Dec, scale int) {
	t.Helper()
	x, y := value(a), value(b)
	step := new(big.Rat).SetFrac(one, tenTo(scale))
	args := fmt.Sprintf("(%+v, %+v, %d)", a, b, scale)
	for _, mode := range modes {
		got, e := quant.Quant(a, scale, mode)
		hold(t, "Quant"+args, got, e, x, step, scale, mode)
		got, e = quant.Times(a, b, scale, mode)
		hold(t, "Times"+args, got, e, new(big.Rat).Mul(x, y), step, scale, mode)
		if y.Sign() == 0 {
			continue
		}
		got, e = quant.Div(a, b, scale, mode)
		hold(t, "Div"+args, got, e, ratio(x, y), step, scale, mode)
		unit := b
		unit.Neg = false
		got, e = quant.Unit(a, unit, mode)
		hold(t, "Unit"+args, got, e, x, value(unit), unit.Scale, mode)
	}
}

// edges are decimals about which signs, middles, words and rooms turn.
func edges() []api.Dec {
	ten30, _ := limb.Ten(api.Digits)
	last, _ := limb.Sub(ten30, limb.Of(1))
	half, _, _ := limb.Div(limb.Wide(ten30), limb.Of(2))
	sizes := []two{{0}, {1}, {5}, {15}, {25}, {999999999}, {1<<64 - 1}, {0, 1}, {half[0], half[1]}, last}
	var out []api.Dec
	for _, c := range sizes {
		for _, scale := range []int{0, 1, 9} {
			out = append(out, api.Dec{C: c, Scale: scale})
			if c != (two{}) {
				out = append(out, api.Dec{Neg: true, C: c, Scale: scale})
			}
		}
	}
	return out
}

func TestEdges(t *testing.T) {
	for _, a := range edges() {
		for _, b := range edges() {
			for _, scale := range []int{0, 1, 5, 9} {
				holdAll(t, a, b, scale)
			}
		}
	}
}

// TestSmall: all small quotients and products, among them each middle of each small divisor.
func TestSmall(t *testing.T) {
	for n := -45; n <= 45; n++ {
		for m := range 26 {
			holdAll(t, dec.Of(n, 0), dec.Of(m, 0), 0)
			holdAll(t, dec.Of(n, 1), dec.Of(-m, 1), 1)
			holdAll(t, dec.Of(n, 2), dec.Of(m, 0), 1)
		}
	}
}

// draw is a right decimal of any length.
func draw(r *rand.Rand) api.Dec {
	for {
		c, _ := limb.Short(limb.Right([4]uint64{r.Uint64(), r.Uint64()}, 28+r.IntN(100)))
		d := api.Dec{Neg: r.IntN(2) == 1, C: c, Scale: r.IntN(api.MaxScale + 1)}
		if dec.Right(d) {
			return d
		}
	}
}

// TestDrawn: a seed that stands makes each run the same.
func TestDrawn(t *testing.T) {
	r := rand.New(rand.NewPCG(5, 6))
	for range 10000 {
		holdAll(t, draw(r), draw(r), r.IntN(api.MaxScale+1))
	}
}

// TestMiddles: quotients that lie just in the middle, and those next to them, of divisors of all lengths.
func TestMiddles(t *testing.T) {
	r := rand.New(rand.NewPCG(7, 8))
	for range 5000 {
		half, times := draw(r), draw(r)
		half.Scale, times.Scale = 0, 0
		times.C[0] |= 1
		a, e := dec.Mul(half, times)
		b, e2 := dec.Add(half, half)
		if e != api.OK || e2 != api.OK {
			continue
		}
		for by := -1; by <= 1; by++ {
			if next, e := dec.Add(a, dec.Of(by, 0)); e == api.OK {
				scale := r.IntN(api.MaxScale + 1)
				next.Scale, b.Scale = scale, scale
				holdAll(t, next, b, 0)
			}
		}
	}
}
