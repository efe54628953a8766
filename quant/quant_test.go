package quant_test

import (
	"math"
	"strings"
	"testing"

	"pyx/api"
	"pyx/dec"
	"pyx/limb"
	"pyx/quant"
)

type two = [2]uint64

const small = "0.000000001"

var nines = strings.Repeat("9", api.Digits)

var modes = []int{quant.Down, quant.Up, quant.Floor, quant.HalfUp, quant.HalfEven}

func read(t *testing.T, s string) api.Dec {
	t.Helper()
	d, e := dec.Read(s)
	if e != api.OK {
		t.Fatalf("2.2: Read(%q): %d", s, e)
	}
	return d
}

// told holds an answer against a text (with its Scale), or against an error, that has the zero Dec beside it.
func told(t *testing.T, got api.Dec, e api.Errno, text string, want api.Errno, call string, args ...any) {
	t.Helper()
	ok := e == want && got == api.Dec{}
	if want == api.OK {
		ok = e == want && got == read(t, text)
	}
	if !ok {
		t.Errorf("3.1: %s%v = %+v, %d, want %q, %d", call, args, got, e, text, want)
	}
}

// wrong are decimals that are not right.
func wrong() []api.Dec {
	edge, _ := limb.Ten(api.Digits)
	return []api.Dec{
		{Neg: true},
		{Neg: true, Scale: api.MaxScale},
		{Scale: -1},
		{C: two{5}, Scale: math.MinInt},
		{C: two{5}, Scale: api.MaxScale + 1},
		{C: two{5}, Scale: math.MaxInt},
		{C: edge},
		{Neg: true, C: edge, Scale: 3},
		{C: two{math.MaxUint64, math.MaxUint64}, Scale: 3},
	}
}

var noScales = []int{math.MinInt, -1, api.MaxScale + 1, math.MaxInt}

var noModes = []int{math.MinInt, -1, 5, math.MaxInt}

func TestModeNumbers(t *testing.T) {
	for want, mode := range modes {
		if mode != want {
			t.Errorf("3.1: mode %d is %d", want, mode)
		}
	}
}

func TestExample(t *testing.T) {
	got, e := quant.Quant(read(t, "2.5"), 0, quant.HalfEven)
	told(t, got, e, "2", api.OK, "Quant", "2.5", 0, "HalfEven")
	got, e = quant.Quant(read(t, "-2.5"), 0, quant.Floor)
	told(t, got, e, "-3", api.OK, "Quant", "-2.5", 0, "Floor")
}

// modeRows: a value, and what Down, Up, Floor, HalfUp and HalfEven make of it at Scale 1.
var modeRows = []struct {
	a    string
	want [5]string
}{
	{"2.4", [5]string{"2.4", "2.4", "2.4", "2.4", "2.4"}},
	{"2.40", [5]string{"2.4", "2.4", "2.4", "2.4", "2.4"}},
	{"2.401", [5]string{"2.4", "2.5", "2.4", "2.4", "2.4"}},
	{"2.449", [5]string{"2.4", "2.5", "2.4", "2.4", "2.4"}},
	{"2.45", [5]string{"2.4", "2.5", "2.4", "2.5", "2.4"}},
	{"2.451", [5]string{"2.4", "2.5", "2.4", "2.5", "2.5"}},
	{"2.499", [5]string{"2.4", "2.5", "2.4", "2.5", "2.5"}},
	{"2.5", [5]string{"2.5", "2.5", "2.5", "2.5", "2.5"}},
	{"2.549", [5]string{"2.5", "2.6", "2.5", "2.5", "2.5"}},
	{"2.550", [5]string{"2.5", "2.6", "2.5", "2.6", "2.6"}},
	{"2.551", [5]string{"2.5", "2.6", "2.5", "2.6", "2.6"}},
	{"2.95", [5]string{"2.9", "3.0", "2.9", "3.0", "3.0"}},
	{"3.05", [5]string{"3.0", "3.1", "3.0", "3.1", "3.0"}},
	{"-2.4", [5]string{"-2.4", "-2.4", "-2.4", "-2.4", "-2.4"}},
	{"-2.400", [5]string{"-2.4", "-2.4", "-2.4", "-2.4", "-2.4"}},
	{"-2.401", [5]string{"-2.4", "-2.5", "-2.5", "-2.4", "-2.4"}},
	{"-2.449", [5]string{"-2.4", "-2.5", "-2.5", "-2.4", "-2.4"}},
	{"-2.45", [5]string{"-2.4", "-2.5", "-2.5", "-2.5", "-2.4"}},
	{"-2.451", [5]string{"-2.4", "-2.5", "-2.5", "-2.5", "-2.5"}},
	{"-2.55", [5]string{"-2.5", "-2.6", "-2.6", "-2.6", "-2.6"}},
	{"-2.549", [5]string{"-2.5", "-2.6", "-2.6", "-2.5", "-2.5"}},
	{"-2.551", [5]string{"-2.5", "-2.6", "-2.6", "-2.6", "-2.6"}},
	{"-9.95", [5]string{"-9.9", "-10.0", "-10.0", "-10.0", "-10.0"}},
	{"0", [5]string{"0.0", "0.0", "0.0", "0.0", "0.0"}},
	{"0.0000", [5]string{"0.0", "0.0", "0.0", "0.0", "0.0"}},
	{"0.001", [5]string{"0.0", "0.1", "0.0", "0.0", "0.0"}},
	{"0.05", [5]string{"0.0", "0.1", "0.0", "0.1", "0.0"}},
	{"0.051", [5]string{"0.0", "0.1", "0.0", "0.1", "0.1"}},
	{"-0.001", [5]string{"0.0", "-0.1", "-0.1", "0.0", "0.0"}},
	{"-0.05", [5]string{"0.0", "-0.1", "-0.1", "-0.1", "0.0"}},
	{"-0.051", [5]string{"0.0", "-0.1", "-0.1", "-0.1", "-0.1"}},
}

// TestModes: each call makes of one value the same.
func TestModes(t *testing.T) {
	seven := read(t, "-7.00")
	for _, c := range modeRows {
		a := read(t, c.a)
		by7, by10 := product(t, a, seven), product(t, a, read(t, "-10"))
		for mode, text := range c.want {
			got, e := quant.Quant(a, 1, mode)
			told(t, got, e, text, api.OK, "Quant", c.a, 1, mode)
			got, e = quant.Div(by7, seven, 1, mode)
			told(t, got, e, text, api.OK, "Div", dec.Print(by7), "-7.00", 1, mode)
			got, e = quant.Div(a, read(t, "1.000000000"), 1, mode)
			told(t, got, e, text, api.OK, "Div", c.a, "1.000000000", 1, mode)
			got, e = quant.Times(a, read(t, "1.0"), 1, mode)
			told(t, got, e, text, api.OK, "Times", c.a, "1.0", 1, mode)
			got, e = quant.Times(read(t, "-0.1"), by10, 1, mode)
			told(t, got, e, text, api.OK, "Times", "-0.1", dec.Print(by10), 1, mode)
			got, e = quant.Unit(a, read(t, "0.1"), mode)
			told(t, got, e, text, api.OK, "Unit", c.a, "0.1", mode)
		}
	}
}

func product(t *testing.T, a, b api.Dec) api.Dec {
	t.Helper()
	out, e := dec.Mul(a, b)
	if e != api.OK {
		t.Fatalf("2.1: Mul(%+v, %+v): %d", a, b, e)
	}
	return out
}

// TestWrongDecimals: for each decimal of each call, even where another error would apply behind it.
func TestWrongDecimals(t *testing.T) {
	others := append(wrong(), dec.Of(0, 0), dec.Of(1, 9), dec.Of(-3, 0), read(t, nines))
	for _, a := range wrong() {
		for _, scale := range []int{-1, 0, 9, 10} {
			for _, mode := range []int{-1, quant.Down, quant.HalfEven, 5} {
				got, e := quant.Quant(a, scale, mode)
				told(t, got, e, "", api.ErrArg, "Quant", a, scale, mode)
				for _, b := range others {
					wrongPair(t, a, b, scale, mode)
					wrongPair(t, b, a, scale, mode)
				}
			}
		}
	}
}

func wrongPair(t *testing.T, a, b api.Dec, scale, mode int) {
	t.Helper()
	got, e := quant.Div(a, b, scale, mode)
	told(t, got, e, "", api.ErrArg, "Div", a, b, scale, mode)
	got, e = quant.Times(a, b, scale, mode)
	told(t, got, e, "", api.ErrArg, "Times", a, b, scale, mode)
	got, e = quant.Unit(a, b, mode)
	told(t, got, e, "", api.ErrArg, "Unit", a, b, mode)
}

// TestWrongWays: a mode or a scale that is none is ErrArg, ahead of ErrZero and ErrOver.
func TestWrongWays(t *testing.T) {
	for _, a := range []string{"0", "1", "-2.5", nines} {
		for _, scale := range noScales {
			for _, mode := range append(noModes, modes...) {
				wayless(t, a, scale, mode)
			}
		}
		for _, mode := range noModes {
			for scale := range api.MaxScale + 1 {
				wayless(t, a, scale, mode)
			}
			for _, unit := range []string{"0", "1", "-1", small, nines} {
				got, e := quant.Unit(read(t, a), read(t, unit), mode)
				told(t, got, e, "", api.ErrArg, "Unit", a, unit, mode)
			}
		}
	}
}

func wayless(t *testing.T, a string, scale, mode int) {
	t.Helper()
	d := read(t, a)
	got, e := quant.Quant(d, scale, mode)
	told(t, got, e, "", api.ErrArg, "Quant", a, scale, mode)
	for _, b := range []string{"0", "0.000", "1", small, "-" + nines} {
		got, e = quant.Div(d, read(t, b), scale, mode)
		told(t, got, e, "", api.ErrArg, "Div", a, b, scale, mode)
		got, e = quant.Times(d, read(t, b), scale, mode)
		told(t, got, e, "", api.ErrArg, "Times", a, b, scale, mode)
	}
}

// TestByZero: of each Scale, whatever is divided.
func TestByZero(t *testing.T) {
	for _, a := range []string{"0", "0.00", "5", "-5.5", nines, "-" + small} {
		for zero := range api.MaxScale + 1 {
			for scale := range api.MaxScale + 1 {
				for _, mode := range modes {
					got, e := quant.Div(read(t, a), dec.Of(0, zero), scale, mode)
					told(t, got, e, "", api.ErrZero, "Div", a, dec.Of(0, zero), scale, mode)
				}
			}
		}
	}
}

// TestNoUnit: a unit that is 0 or below it is ErrArg, not ErrZero, and ahead of ErrOver.
func TestNoUnit(t *testing.T) {
	for _, a := range []string{"0", "5", "-5.5", nines} {
		for _, unit := range []string{"0", "0.0", "0.000000000", "-1", "-100", "-" + small, "-" + nines} {
			for _, mode := range modes {
				got, e := quant.Unit(read(t, a), read(t, unit), mode)
				told(t, got, e, "", api.ErrArg, "Unit", a, unit, mode)
			}
		}
	}
}

func TestQuant(t *testing.T) {
	for _, c := range []struct {
		a           string
		scale, mode int
		want        string
		e           api.Errno
	}{
		{"1.2", 1, quant.Up, "1.2", api.OK},
		{"1.2", 4, quant.Up, "1.2000", api.OK},
		{"-1.2", 9, quant.Floor, "-1.200000000", api.OK},
		{"0", 9, quant.Up, "0.000000000", api.OK},
		{"0.000000000", 0, quant.Up, "0", api.OK},
		{"-0.400000000", 0, quant.HalfUp, "0", api.OK},
		{"-" + small, 8, quant.Down, "0.00000000", api.OK},
		{"-" + small, 9, quant.Down, "-" + small, api.OK},
		{"-" + small, 0, quant.Floor, "-1", api.OK},
		{"1.250000000", 1, quant.HalfEven, "1.2", api.OK},
		{"1.250000001", 1, quant.HalfEven, "1.3", api.OK},
		{"1.249999999", 1, quant.HalfUp, "1.2", api.OK},
		{nines, 0, quant.Up, nines, api.OK},
		{"-" + nines, 0, quant.Floor, "-" + nines, api.OK},
		{nines, 1, quant.Down, "", api.ErrOver},
		{"-" + nines, 9, quant.Down, "", api.ErrOver},
		{"100000000000000000000000000000", 1, quant.Down, "", api.ErrOver},
		{"99999999999999999999999999999", 1, quant.Down, "99999999999999999999999999999.0", api.OK},
		{"999999999999999999999", 9, quant.Up, "999999999999999999999.000000000", api.OK},
		{"1000000000000000000000", 9, quant.Up, "", api.ErrOver},
		// At Scale 9 their numbers are 2 to the 128, and a bit more or less.
		{"340282366920938463463374607431", 9, quant.Down, "", api.ErrOver},
		{"340282366920938463463374607432", 9, quant.Down, "", api.ErrOver},
		{"999999999999999999999.999999999", 0, quant.Down, "999999999999999999999", api.OK},
		{"999999999999999999999.999999999", 0, quant.HalfEven, "1000000000000000000000", api.OK},
		{"99999999999999999999999999999.9", 0, quant.Up, "100000000000000000000000000000", api.OK},
	} {
		got, e := quant.Quant(read(t, c.a), c.scale, c.mode)
		told(t, got, e, c.want, c.e, "Quant", c.a, c.scale, c.mode)
	}
}

func TestDiv(t *testing.T) {
	for _, c := range []struct {
		a, b        string
		scale, mode int
		want        string
		e           api.Errno
	}{
		{"1", "3", 4, quant.HalfEven, "0.3333", api.OK},
		{"2", "3", 4, quant.HalfEven, "0.6667", api.OK},
		{"-2", "3", 0, quant.Floor, "-1", api.OK},
		{"2", "-3", 0, quant.Down, "0", api.OK},
		{"-2", "-3", 0, quant.Floor, "0", api.OK},
		{"-1", "3", 9, quant.Up, "-0.333333334", api.OK},
		{"0.00", "-7", 3, quant.Floor, "0.000", api.OK},
		{"1.5", "0.5", 0, quant.Up, "3", api.OK},
		{"1.5", "0.500000000", 9, quant.Up, "3.000000000", api.OK},
		{"1.500000000", "5", 1, quant.Up, "0.3", api.OK},
		{"6", "-0.4", 0, quant.HalfUp, "-15", api.OK},
		{"1", nines, 0, quant.Up, "1", api.OK},
		{"1", nines, 9, quant.HalfUp, "0.000000000", api.OK},
		{"-1", nines, 9, quant.Floor, "-" + small, api.OK},
		// Rounded at the ninth digit first these would go up from a middle that is none.
		{"1.499999999", "1.000000001", 0, quant.HalfUp, "1", api.OK},
		{"4.499999999", "3", 0, quant.HalfUp, "1", api.OK},
		{"4.499999999", "3", 0, quant.HalfEven, "1", api.OK},
		// The greatest number, and what is above it.
		{nines, "1", 0, quant.Up, nines, api.OK},
		{nines, "-1.000000000", 0, quant.Up, "-" + nines, api.OK},
		{"99999999999999999999999999999.9", "0.1", 0, quant.Down, nines, api.OK},
		{"999999999999999999999", small, 0, quant.Down, "999999999999999999999000000000", api.OK},
		{"699999999999999999999999999999", "0.7", 0, quant.Down, "999999999999999999999999999998", api.OK},
		{"699999999999999999999999999999", "0.7", 0, quant.HalfUp, nines, api.OK},
		{"-699999999999999999999999999999", "0.7", 0, quant.Floor, "-" + nines, api.OK},
		{"700000000000000000000000000000", "0.7", 0, quant.Down, "", api.ErrOver},
		{nines, "0.1", 0, quant.Down, "", api.ErrOver},
		{nines, "1", 1, quant.Down, "", api.ErrOver},
		{"-" + nines, small, 9, quant.Down, "", api.ErrOver},
		{"1000000000000000000000", small, 0, quant.Down, "", api.ErrOver},
		// What is divided has no room in two words.
		{nines, nines, 9, quant.Up, "1.000000000", api.OK},
		{nines, "1000000000.000000000", 9, quant.Down, "999999999999999999999.999999999", api.OK},
		{nines, "999999999.000000000", 9, quant.Down, "", api.ErrOver},
		{nines, "1000000000000.000000000", 9, quant.Down, "999999999999999999.999999999", api.OK},
		{nines, "1000000000000.000000000", 9, quant.HalfUp, "1000000000000000000.000000000", api.OK},
		// The quotient's number is 2 to the 128 and more: its two lower words alone would be right.
		{"340282366920938463463374607432", small, 0, quant.Down, "", api.ErrOver},
		// The quotient's number is 2 to the 128 without 1, and much is left: one more has no room in two words.
		{"795085527502715009194033249628", "2.336546365", 9, quant.Down, "", api.ErrOver},
		{"795085527502715009194033249628", "2.336546365", 9, quant.Up, "", api.ErrOver},
		// The divisor's number has no room in two words.
		{small, nines, 0, quant.Up, "1", api.OK},
		{small, nines, 0, quant.HalfUp, "0", api.OK},
		{"-" + small, nines, 0, quant.Floor, "-1", api.OK},
		{"-" + small, nines, 0, quant.HalfEven, "0", api.OK},
		{"0.000000000", nines, 0, quant.Up, "0", api.OK},
		{"-999999999999999999999.999999999", nines, 0, quant.HalfUp, "0", api.OK},
		{"999999999999999999999.999999999", nines, 0, quant.Up, "1", api.OK},
		// The divisor's number is 2 to the 128 and more: its two lower words alone would be below what is divided.
		{"1.000000000", "340282366920938463463374607432", 0, quant.HalfUp, "0", api.OK},
		{"1.000000000", "340282366920938463463374607432", 0, quant.Up, "1", api.OK},
	} {
		got, e := quant.Div(read(t, c.a), read(t, c.b), c.scale, c.mode)
		told(t, got, e, c.want, c.e, "Div", c.a, c.b, c.scale, c.mode)
	}
}

func TestTimes(t *testing.T) {
	for _, c := range []struct {
		a, b        string
		scale, mode int
		want        string
		e           api.Errno
	}{
		{"1.5", "1.5", 0, quant.HalfUp, "2", api.OK},
		{"1.5", "1.5", 1, quant.HalfEven, "2.2", api.OK},
		{"1.5", "-1.5", 1, quant.HalfUp, "-2.3", api.OK},
		{"1.5", "-1.5", 2, quant.Floor, "-2.25", api.OK},
		{"-1.5", "-1.5", 5, quant.Down, "2.25000", api.OK},
		{"2", "3", 0, quant.Down, "6", api.OK},
		{"2", "3", 9, quant.Down, "6.000000000", api.OK},
		{"0", "-5", 3, quant.Floor, "0.000", api.OK},
		{"-5.000000000", "0.000000000", 0, quant.Up, "0", api.OK},
		{"-0.1", "0.1", 0, quant.Down, "0", api.OK},
		{"-0.1", "0.1", 1, quant.HalfUp, "0.0", api.OK},
		{small, small, 9, quant.Up, small, api.OK},
		{small, small, 9, quant.HalfUp, "0.000000000", api.OK},
		{small, "-" + small, 0, quant.Floor, "-1", api.OK},
		{small, "0.500000000", 9, quant.HalfUp, small, api.OK},
		{small, "0.500000000", 9, quant.HalfEven, "0.000000000", api.OK},
		{"0.000000003", "0.500000000", 9, quant.HalfEven, "0.000000002", api.OK},
		// Rounded at the ninth digit first these would go up from a middle that is none.
		{"2.999999999", "0.5", 0, quant.HalfUp, "1", api.OK},
		{"2.999999999", "-0.5", 0, quant.HalfEven, "-1", api.OK},
		{"0.999999999", "0.999999999", 9, quant.HalfUp, "0.999999998", api.OK},
		{"0.499999999", "0.999999999", 0, quant.HalfUp, "0", api.OK},
		// Rounded down at the ninth digit first these would be on a step.
		{small, small, 0, quant.Up, "1", api.OK},
		{"1.000000001", "1.000000001", 9, quant.Up, "1.000000003", api.OK},
		{"1.500000001", "1.000000000", 0, quant.HalfEven, "2", api.OK},
		{"2.500000000", "1.000000001", 0, quant.HalfEven, "3", api.OK},
		// The greatest number, and what is above it.
		{nines, "-1", 0, quant.Up, "-" + nines, api.OK},
		{nines, "1.000000000", 0, quant.Up, nines, api.OK},
		{nines, "1", 1, quant.Down, "", api.ErrOver},
		{nines, "0", 9, quant.Down, "0.000000000", api.OK},
		{"0", "-" + nines, 9, quant.Down, "0.000000000", api.OK},
		{"999999999999999", "1000000000000000", 0, quant.Down, "999999999999999000000000000000", api.OK},
		{"1000000000000000", "-1000000000000000", 0, quant.Down, "", api.ErrOver},
		{"999999999000000000999999999000", "1.000000001", 0, quant.Down, nines, api.OK},
		{"-999999999000000000999999999000", "1.000000001", 0, quant.Down, "-" + nines, api.OK},
		{"999999999000000000999999999000", "1.000000001", 0, quant.HalfEven, "", api.ErrOver},
		{"999999999000000000999999999000", "1.000000001", 0, quant.Up, "", api.ErrOver},
		{"-999999999000000000999999999000", "1.000000001", 0, quant.Floor, "", api.ErrOver},
		{"999999999000000000999999998999", "1.000000001", 0, quant.Up, nines, api.OK},
		{"666666666666666666666666666667", "1.5", 0, quant.Down, "", api.ErrOver},
		// The whole product has no room in two words.
		{nines, nines, 0, quant.Down, "", api.ErrOver},
		{nines, "-" + nines, 9, quant.Down, "", api.ErrOver},
		{"999999999999999999999.999999999", "0.999999999", 9, quant.Down, "999999998999999999999.999999999", api.OK},
		{"999999999999999999999.999999999", "0.999999999", 9, quant.Up, "999999999000000000000.000000000", api.OK},
		{"999999999999999999999.999999999", "-1.000000000", 9, quant.Floor, "-999999999999999999999.999999999", api.OK},
		{"999999999999999999999.999999999", "-1.000000001", 9, quant.Down, "", api.ErrOver},
		{"999999999999999999999.999999999", "1000000000.0", 0, quant.Up, nines, api.OK},
		// The number of what is told is 2 to the 128 and more: its two lower words alone would be right.
		{"18446744073709551616", "18446744073709551616", 0, quant.Down, "", api.ErrOver},
		{"18446744073709551616", "18446744073709551616", 9, quant.Down, "", api.ErrOver},
		{"18446744073709551616.0", "18446744073709551616.0", 0, quant.Down, "", api.ErrOver},
		// It is 2 to the 128 without 1, and much is left: one more has no room in two words.
		{"18446744073709551615.999999999", "18446744073709551616.000000001", 0, quant.Down, "", api.ErrOver},
		{"18446744073709551615.999999999", "18446744073709551616.000000001", 0, quant.Up, "", api.ErrOver},
	} {
		got, e := quant.Times(read(t, c.a), read(t, c.b), c.scale, c.mode)
		told(t, got, e, c.want, c.e, "Times", c.a, c.b, c.scale, c.mode)
	}
}

func TestUnit(t *testing.T) {
	for _, c := range []struct {
		a, unit string
		mode    int
		want    string
		e       api.Errno
	}{
		{"250", "100", quant.Down, "200", api.OK},
		{"250", "100", quant.Up, "300", api.OK},
		{"-250", "100", quant.Floor, "-300", api.OK},
		{"-250", "100", quant.HalfUp, "-300", api.OK},
		{"-250", "100", quant.HalfEven, "-200", api.OK},
		// Which time is even tells, not the last digit.
		{"50", "100", quant.HalfEven, "0", api.OK},
		{"150", "100", quant.HalfEven, "200", api.OK},
		{"350", "100", quant.HalfEven, "400", api.OK},
		{"3", "2", quant.HalfEven, "4", api.OK},
		{"5", "2", quant.HalfEven, "4", api.OK},
		{"7.5", "5", quant.HalfEven, "10", api.OK},
		{"12.5", "5", quant.HalfEven, "10", api.OK},
		{"0.375", "0.25", quant.HalfEven, "0.50", api.OK},
		{"0.625", "0.25", quant.HalfEven, "0.50", api.OK},
		// The Scale is unit's, whatever a's is.
		{"1", "0.50", quant.Down, "1.00", api.OK},
		{"1.000000000", "0.5", quant.Down, "1.0", api.OK},
		{"7.250000000", "3", quant.Up, "9", api.OK},
		{"0", "0.001", quant.Up, "0.000", api.OK},
		{"0.000000000", "10", quant.Up, "0", api.OK},
		{"-0.01", "0.050", quant.Down, "0.000", api.OK},
		{"-49.99", "100", quant.HalfUp, "0", api.OK},
		// Rounded at the ninth digit first this would go up from a middle that is none.
		{"4.499999999", "3", quant.HalfUp, "3", api.OK},
		{"-4.499999999", "3", quant.HalfEven, "-3", api.OK},
		// The greatest number, and what is above it.
		{nines, "1", quant.Up, nines, api.OK},
		{nines, nines, quant.Up, nines, api.OK},
		{nines, "3", quant.Up, nines, api.OK},
		{nines, "2", quant.Down, "999999999999999999999999999998", api.OK},
		{nines, "2", quant.HalfEven, "", api.ErrOver},
		{"-" + nines, "2", quant.Floor, "", api.ErrOver},
		{nines, "1000", quant.Down, "999999999999999999999999999000", api.OK},
		{nines, "1000", quant.Up, "", api.ErrOver},
		{"500000000000000000000000000000", nines, quant.HalfUp, nines, api.OK},
		{"600000000000000000000000000001", "600000000000000000000000000000", quant.Up, "", api.ErrOver},
		{"999999999999999999999", small, quant.Up, "999999999999999999999.000000000", api.OK},
		{"1000000000000000000000", small, quant.Down, "", api.ErrOver},
		{"1000000000000000000000", "3.000000000", quant.Down, "999999999999999999999.000000000", api.OK},
		{"1000000000000000000000", "3.000000000", quant.Up, "", api.ErrOver},
		{nines, "1.0", quant.Down, "", api.ErrOver},
		{nines, small, quant.Down, "", api.ErrOver},
		{"-340282366920938463463374607432", small, quant.Down, "", api.ErrOver},
		// The unit's number at a's Scale has no room in two words.
		{small, nines, quant.HalfUp, "0", api.OK},
		{small, nines, quant.Up, nines, api.OK},
		{"-" + small, nines, quant.Floor, "-" + nines, api.OK},
		{"-" + small, nines, quant.Down, "0", api.OK},
		{"1.000000000", "340282366920938463463374607432", quant.HalfEven, "0", api.OK},
	} {
		got, e := quant.Unit(read(t, c.a), read(t, c.unit), c.mode)
		told(t, got, e, c.want, c.e, "Unit", c.a, c.unit, c.mode)
	}
}
