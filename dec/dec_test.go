package dec_test

import (
	"fmt"
	"math"
	"math/big"
	"math/rand/v2"
	"strings"
	"testing"

	"pyx/api"
	"pyx/dec"
	"pyx/limb"
)

type two = [2]uint64

const top = math.MaxUint64

var nines = strings.Repeat("9", api.Digits)

// edgeC is the first number that is not right, handed over by the layer below.
func edgeC() two {
	c, ok := limb.Ten(api.Digits)
	if !ok {
		panic("ten to Digits is no number of two words")
	}
	return c
}

// lastC is the greatest right number.
func lastC() two {
	c, _ := limb.Sub(edgeC(), limb.Of(1))
	return c
}

// wrong are decimals that are not right, each for one reason, or for more of them.
func wrong() []api.Dec {
	over, _ := limb.Add(edgeC(), limb.Of(1))
	return []api.Dec{
		{Neg: true},
		{Neg: true, Scale: 2},
		{Neg: true, Scale: api.MaxScale},
		{Scale: -1},
		{C: two{5}, Scale: -1},
		{C: two{5}, Scale: math.MinInt},
		{C: two{5}, Scale: api.MaxScale + 1},
		{C: two{5}, Scale: math.MaxInt},
		{C: edgeC()},
		{Neg: true, C: edgeC(), Scale: 9},
		{C: over},
		{C: two{0, edgeC()[1] + 1}},
		{C: two{0, 1 << 63}},
		{C: two{top, top}, Scale: 3},
		{Neg: true, Scale: -1},
		{Neg: true, C: two{top, top}, Scale: 10},
	}
}

// rights are right decimals about which signs, words, Scales and rooms turn.
func rights() []api.Dec {
	room21, _ := limb.Ten(api.Digits - api.MaxScale)
	below21, _ := limb.Sub(room21, limb.Of(1))
	ten15, _ := limb.Ten(15)
	below15, _ := limb.Sub(ten15, limb.Of(1))
	sizes := []two{
		{0}, {1}, {5}, {10}, {15}, {150}, {1000000000}, {top}, {0, 1}, {1, 1},
		ten15, below15, room21, below21, {1 << 63}, {0, edgeC()[1]}, lastC(),
	}
	var out []api.Dec
	for _, c := range sizes {
		for _, scale := range []int{0, 1, 2, 5, 8, 9} {
			out = append(out, api.Dec{C: c, Scale: scale})
			if c != (two{}) {
				out = append(out, api.Dec{Neg: true, C: c, Scale: scale})
			}
		}
	}
	return out
}

// drawn is right decimals of all lengths: a seed that stands makes each run the same.
func drawn(count int) []api.Dec {
	r := rand.New(rand.NewPCG(3, 4))
	var out []api.Dec
	for len(out) < count {
		c, _ := limb.Short(limb.Right([4]uint64{r.Uint64(), r.Uint64()}, 28+r.IntN(100)))
		d := api.Dec{Neg: r.IntN(2) == 1, C: c, Scale: r.IntN(10)}
		if limb.Cmp(c, edgeC()) < 0 && c != (two{}) {
			out = append(out, d)
		}
	}
	return out
}

// signedC is a's number with its sign, told by a library that shares no code with dec.
func signedC(a api.Dec) *big.Int {
	n := new(big.Int).SetUint64(a.C[1])
	n.Lsh(n, 64).Or(n, new(big.Int).SetUint64(a.C[0]))
	if a.Neg {
		n.Neg(n)
	}
	return n
}

func tenTo(k int) *big.Int {
	return new(big.Int).Exp(big.NewInt(10), big.NewInt(int64(k)), nil)
}

func at(a api.Dec, scale int) *big.Int {
	return new(big.Int).Mul(signedC(a), tenTo(scale-a.Scale))
}

// want holds what a call answered against a number and a Scale.
func want(t *testing.T, call string, got api.Dec, e api.Errno, n *big.Int, scale int) {
	t.Helper()
	if scale > api.MaxScale || new(big.Int).Abs(n).Cmp(tenTo(api.Digits)) >= 0 {
		if e != api.ErrOver || got != (api.Dec{}) {
			t.Errorf("%s = %+v, %d, want ErrOver", call, got, e)
		}
		return
	}
	if e != api.OK || got.Scale != scale || signedC(got).Cmp(n) != 0 || got.Neg != (n.Sign() < 0) {
		t.Errorf("%s = %+v, %d, want %s, %d", call, got, e, n, scale)
	}
}

func read(t *testing.T, s string) api.Dec {
	t.Helper()
	d, e := dec.Read(s)
	if e != api.OK {
		t.Fatalf("2.2: Read(%q): %d", s, e)
	}
	return d
}

func TestRight(t *testing.T) {
	for _, d := range wrong() {
		if dec.Right(d) {
			t.Errorf("2.1: Right(%+v)", d)
		}
	}
	for _, d := range append(rights(), drawn(2000)...) {
		if !dec.Right(d) {
			t.Errorf("2.1: not Right(%+v)", d)
		}
	}
	for scale := -2; scale <= api.MaxScale+2; scale++ {
		ok := scale >= 0 && scale <= api.MaxScale
		for _, c := range []struct {
			d    api.Dec
			want bool
		}{
			{api.Dec{Scale: scale}, ok},
			{api.Dec{Neg: true, Scale: scale}, false},
			{api.Dec{C: lastC(), Scale: scale}, ok},
			{api.Dec{Neg: true, C: lastC(), Scale: scale}, ok},
			{api.Dec{C: edgeC(), Scale: scale}, false},
		} {
			if got := dec.Right(c.d); got != c.want {
				t.Errorf("2.1: Right(%+v) = %t", c.d, got)
			}
		}
	}
}

func TestWrong(t *testing.T) {
	for _, d := range wrong() {
		if got := dec.Neg(d); got != (api.Dec{}) {
			t.Errorf("2.1: Neg(%+v) = %+v", d, got)
		}
		if got := dec.Sign(d); got != 0 {
			t.Errorf("2.1: Sign(%+v) = %d", d, got)
		}
		if got := dec.Print(d); got != "" {
			t.Errorf("2.1: Print(%+v) = %q", d, got)
		}
		for scale := -1; scale <= api.MaxScale+1; scale++ {
			if got, e := dec.Scaled(d, scale); e != api.ErrArg || got != (api.Dec{}) {
				t.Errorf("2.1: Scaled(%+v, %d) = %+v, %d", d, scale, got, e)
			}
		}
		for _, other := range append(wrong(), dec.Of(0, 0), dec.Of(7, 3), dec.Of(-7, 9), api.Dec{C: lastC(), Scale: 9}) {
			wrongPair(t, d, other)
			wrongPair(t, other, d)
		}
	}
}

// wrongPair: what is not right is ErrArg even where the other one would be ErrOver.
func wrongPair(t *testing.T, a, b api.Dec) {
	t.Helper()
	if got := dec.Cmp(a, b); got != 0 {
		t.Errorf("2.1: Cmp(%+v, %+v) = %d", a, b, got)
	}
	for name, call := range map[string]func(a, b api.Dec) (api.Dec, api.Errno){"Add": dec.Add, "Sub": dec.Sub, "Mul": dec.Mul} {
		if got, e := call(a, b); e != api.ErrArg || got != (api.Dec{}) {
			t.Errorf("2.1: %s(%+v, %+v) = %+v, %d", name, a, b, got, e)
		}
	}
}

func TestOf(t *testing.T) {
	for _, c := range []struct {
		n, scale int
		want     api.Dec
	}{
		{0, 0, api.Dec{}},
		{0, 4, api.Dec{Scale: 4}},
		{1234, 1, api.Dec{C: two{1234}, Scale: 1}},
		{-5, 2, api.Dec{Neg: true, C: two{5}, Scale: 2}},
		{-1, 9, api.Dec{Neg: true, C: two{1}, Scale: 9}},
		{7, -1, api.Dec{C: two{7}}},
		{7, math.MinInt, api.Dec{C: two{7}}},
		{7, 10, api.Dec{C: two{7}, Scale: 9}},
		{-7, math.MaxInt, api.Dec{Neg: true, C: two{7}, Scale: 9}},
		{math.MaxInt, 0, api.Dec{C: two{1<<63 - 1}}},
		{math.MinInt + 1, 3, api.Dec{Neg: true, C: two{1<<63 - 1}, Scale: 3}},
		{math.MinInt, 0, api.Dec{Neg: true, C: two{1 << 63}}},
	} {
		if got := dec.Of(c.n, c.scale); got != c.want {
			t.Errorf("2.1: Of(%d, %d) = %+v, want %+v", c.n, c.scale, got, c.want)
		}
	}
}

func TestNegAndSign(t *testing.T) {
	for _, c := range []struct {
		a, neg string
		sign   int
	}{
		{"0", "0", 0},
		{"0.000", "0.000", 0},
		{"0.000000000", "0.000000000", 0},
		{"1", "-1", 1},
		{"-12.50", "12.50", -1},
		{"0.000000001", "-0.000000001", 1},
		{"18446744073709551616", "-18446744073709551616", 1},
		{"-" + nines, nines, -1},
	} {
		a := read(t, c.a)
		if got := dec.Neg(a); got != read(t, c.neg) {
			t.Errorf("2.1: Neg(%s) = %+v", c.a, got)
		}
		if got := dec.Sign(a); got != c.sign {
			t.Errorf("2.1: Sign(%s) = %d", c.a, got)
		}
	}
	for _, a := range append(rights(), drawn(2000)...) {
		neg := dec.Neg(a)
		want(t, fmt.Sprintf("2.1: Neg(%+v)", a), neg, api.OK, new(big.Int).Neg(signedC(a)), a.Scale)
		if got := dec.Neg(neg); got != a {
			t.Errorf("2.1: Neg(Neg(%+v)) = %+v", a, got)
		}
		if got := dec.Sign(a); got != signedC(a).Sign() {
			t.Errorf("2.1: Sign(%+v) = %d", a, got)
		}
	}
}

func TestCmp(t *testing.T) {
	for _, c := range []struct {
		a, b string
		want int
	}{
		{"0", "0.000000000", 0},
		{"1.5", "1.50", 0},
		{"-1.5", "-1.500000000", 0},
		{"-1", "1", -1},
		{"-1", "0.0", -1},
		{"0", "0.1", -1},
		{"-2", "-1.5", -1},
		{"1.999999999", "2", -1},
		{"9", "10", -1},
		{"18446744073709551615", "18446744073709551616", -1},
		{"999999999999999999999.999999999", "1000000000000000000000", -1},
		{"999999999999999999999.999999999", nines, -1},
		{"-" + nines, "-999999999999999999999.999999999", -1},
		{"340282366920938463463374607432", "340282366920938463463.374607431", 1},
		// At Scale 9 its number is just above 2 to the 128: what were left of it in two words would be below 1.
		{"340282366920938463463374607432", "1.000000000", 1},
		{"340282366920938463463374607432", "0.000000000", 1},
	} {
		a, b := read(t, c.a), read(t, c.b)
		if got := dec.Cmp(a, b); got != c.want {
			t.Errorf("2.1: Cmp(%s, %s) = %d", c.a, c.b, got)
		}
		if got := dec.Cmp(b, a); got != -c.want {
			t.Errorf("2.1: Cmp(%s, %s) = %d", c.b, c.a, got)
		}
	}
}

func TestCalls(t *testing.T) {
	for _, c := range []struct {
		name       string
		call       func(a, b api.Dec) (api.Dec, api.Errno)
		a, b, want string
		e          api.Errno
	}{
		{"Add", dec.Add, "1.5", "2.25", "3.75", api.OK},
		{"Add", dec.Add, "-1.50", "1.5", "0.00", api.OK},
		{"Add", dec.Add, "-3", "1.25", "-1.75", api.OK},
		{"Add", dec.Add, "1", "-2.0", "-1.0", api.OK},
		{"Add", dec.Add, "-1", "-2.00", "-3.00", api.OK},
		{"Add", dec.Add, "0", "0.000", "0.000", api.OK},
		{"Add", dec.Add, nines, "0", nines, api.OK},
		{"Add", dec.Add, nines, "1", "", api.ErrOver},
		{"Add", dec.Add, "-" + nines, "-1", "", api.ErrOver},
		{"Add", dec.Add, nines, "0.0", "", api.ErrOver},
		{"Add", dec.Add, nines, "-999999999999999999999.999999999", "", api.ErrOver},
		{"Add", dec.Add, "1000000000000000000000", "-0.000000001", "999999999999999999999.999999999", api.OK},
		{"Add", dec.Add, "1000000000000000000000", "0.000000000", "", api.ErrOver},
		{"Add", dec.Add, "0.000000001", "-1000000000000000000000", "-999999999999999999999.999999999", api.OK},
		// At Scale 9 each has room in two words, and the sum has none.
		{"Add", dec.Add, "340282366920938463463374607431", "0.999999999", "", api.ErrOver},
		{"Sub", dec.Sub, "1", "2.5", "-1.5", api.OK},
		{"Sub", dec.Sub, "2.50", "1.5", "1.00", api.OK},
		{"Sub", dec.Sub, "2", "-3", "5", api.OK},
		{"Sub", dec.Sub, "0", "0.00", "0.00", api.OK},
		{"Sub", dec.Sub, nines, nines, "0", api.OK},
		{"Sub", dec.Sub, "-" + nines, "1", "", api.ErrOver},
		{"Sub", dec.Sub, nines, "0.000", "", api.ErrOver},
		{"Sub", dec.Sub, "1500000000000000000000", "999999999999999999999.999999999", "500000000000000000000.000000001", api.OK},
		{"Mul", dec.Mul, "1.5", "-2.25", "-3.375", api.OK},
		{"Mul", dec.Mul, "-3", "-4.0", "12.0", api.OK},
		{"Mul", dec.Mul, "0.00", "-7.5", "0.000", api.OK},
		{"Mul", dec.Mul, "0.0001", "0.00001", "0.000000001", api.OK},
		{"Mul", dec.Mul, "0.00001", "0.00001", "", api.ErrOver},
		{"Mul", dec.Mul, "0.00000", "0.00000", "", api.ErrOver},
		{"Mul", dec.Mul, "0.000000000", "-1.0", "", api.ErrOver},
		{"Mul", dec.Mul, "999999999999999", "1000000000000000", "999999999999999000000000000000", api.OK},
		{"Mul", dec.Mul, "1000000000000000", "1000000000000000", "", api.ErrOver},
		{"Mul", dec.Mul, nines, "-" + nines, "", api.ErrOver},
		{"Mul", dec.Mul, nines, "-1", "-" + nines, api.OK},
		{"Mul", dec.Mul, nines, "0.000000000", "0.000000000", api.OK},
		// The product is 2 to the 128: its two lower words alone would be 0.
		{"Mul", dec.Mul, "18446744073709551616", "18446744073709551616", "", api.ErrOver},
	} {
		got, e := c.call(read(t, c.a), read(t, c.b))
		if e != c.e || e != api.OK && got != (api.Dec{}) || e == api.OK && got != read(t, c.want) {
			t.Errorf("2.1: %s(%s, %s) = %+v, %d, want %q, %d", c.name, c.a, c.b, got, e, c.want, c.e)
		}
	}
}

// TestCallsAll: Cmp, Add, Sub and Mul of many pairs, held against the other library's.
func TestCallsAll(t *testing.T) {
	check := func(a, b api.Dec) {
		scale := max(a.Scale, b.Scale)
		x, y := at(a, scale), at(b, scale)
		pair := fmt.Sprintf("(%+v, %+v)", a, b)
		if got := dec.Cmp(a, b); got != x.Cmp(y) {
			t.Errorf("2.1: Cmp%s = %d", pair, got)
		}
		got, e := dec.Add(a, b)
		want(t, "2.1: Add"+pair, got, e, new(big.Int).Add(x, y), scale)
		got, e = dec.Sub(a, b)
		want(t, "2.1: Sub"+pair, got, e, new(big.Int).Sub(x, y), scale)
		got, e = dec.Mul(a, b)
		want(t, "2.1: Mul"+pair, got, e, new(big.Int).Mul(signedC(a), signedC(b)), a.Scale+b.Scale)
	}
	for _, a := range rights() {
		for _, b := range rights() {
			check(a, b)
		}
	}
	many := drawn(20000)
	for i, a := range many {
		check(a, many[len(many)-1-i])
	}
}

func TestScaled(t *testing.T) {
	for _, c := range []struct {
		a     string
		scale int
		want  string
		e     api.Errno
	}{
		{"1.5", 3, "1.500", api.OK},
		{"-1.5", 1, "-1.5", api.OK},
		{"0", 9, "0.000000000", api.OK},
		{"1.5", 0, "", api.ErrArg},
		{"0.00", 1, "", api.ErrArg},
		{"1", -1, "", api.ErrArg},
		{"1", math.MinInt, "", api.ErrArg},
		{"1", api.MaxScale + 1, "", api.ErrArg},
		{"0.000000000", api.MaxScale + 1, "", api.ErrArg},
		{nines, api.MaxScale + 1, "", api.ErrArg},
		{"1", math.MaxInt, "", api.ErrArg},
		{nines, 0, nines, api.OK},
		{nines, 1, "", api.ErrOver},
		{"-" + nines, 9, "", api.ErrOver},
		{"-999999999999999999999", 9, "-999999999999999999999.000000000", api.OK},
		{"1000000000000000000000", 9, "", api.ErrOver},
		{"340282366920938463463374607432", 9, "", api.ErrOver},
	} {
		got, e := dec.Scaled(read(t, c.a), c.scale)
		if e != c.e || e != api.OK && got != (api.Dec{}) || e == api.OK && got != read(t, c.want) {
			t.Errorf("2.1: Scaled(%s, %d) = %+v, %d, want %q, %d", c.a, c.scale, got, e, c.want, c.e)
		}
	}
	for _, a := range append(rights(), drawn(2000)...) {
		for scale := a.Scale; scale <= api.MaxScale; scale++ {
			got, e := dec.Scaled(a, scale)
			want(t, fmt.Sprintf("2.1: Scaled(%+v, %d)", a, scale), got, e, at(a, scale), scale)
		}
	}
}
