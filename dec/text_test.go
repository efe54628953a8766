package dec_test

import (
	"strings"
	"testing"

	"pyx/api"
	"pyx/dec"
)

func TestRead(t *testing.T) {
	for _, c := range []struct {
		s    string
		want api.Dec
	}{
		{"-12.50", api.Dec{Neg: true, C: two{1250}, Scale: 2}}, // the chapter's example
		{"0", api.Dec{}},
		{"7", api.Dec{C: two{7}}},
		{"-7", api.Dec{Neg: true, C: two{7}}},
		{"0.0", api.Dec{Scale: 1}},
		{"0.000000000", api.Dec{Scale: 9}},
		{"-0.001", api.Dec{Neg: true, C: two{1}, Scale: 3}},
		{"007", api.Dec{C: two{7}}},
		{"-007.10", api.Dec{Neg: true, C: two{710}, Scale: 2}},
		{"1.123456789", api.Dec{C: two{1123456789}, Scale: 9}},
		{"18446744073709551615", api.Dec{C: two{top}}},
		{"18446744073709551616", api.Dec{C: two{0, 1}}},
		{nines, api.Dec{C: lastC()}},
		{"-" + nines, api.Dec{Neg: true, C: lastC()}},
		{nines[:21] + "." + nines[21:], api.Dec{C: lastC(), Scale: 9}},
		{strings.Repeat("0", 30), api.Dec{}},
		{strings.Repeat("0", 30) + ".000000000", api.Dec{Scale: 9}},
		{strings.Repeat("0", 29) + "1.000000002", api.Dec{C: two{1000000002}, Scale: 9}},
		{strings.Repeat("0", 9) + nines[:21] + ".999999999", api.Dec{C: lastC(), Scale: 9}},
	} {
		if got, e := dec.Read(c.s); e != api.OK || got != c.want {
			t.Errorf("2.2: Read(%q) = %+v, %d, want %+v", c.s, got, e, c.want)
		}
	}
}

func TestReadWrong(t *testing.T) {
	zeros := strings.Repeat("0", 30)
	forms := []string{
		"", "-", ".", "-.", "1.", "-1.", ".5", "-.5", "--1", "-1-", "1-", "+1", "+0", "1.-5", "1.+5", "1..5", "1.2.3", "1.2.",
		" 1", "1 ", "1 2", "\t1", "1\n", "1\x00", "1,5", "1_000", "1e3", "0x1", "a", "1a", "1.a", "/", ":", "1/", "1.:",
		"\u0663", "1.\u0663", "\u22121", "\xff", "NaN", "Inf",
		"-0", "-00", "-0.0", "-0.000000000", "-" + zeros, "-" + zeros + ".000000000",
		"0.0000000000", "1.0000000000", "1.1234567890", "-0.0000000001",
		zeros + "0", "0" + nines, zeros + "1", nines + "9", "-" + nines + "9", nines + "9.5", nines + ".0000000000", nines + ".", nines + ".x",
		strings.Repeat("9", 10000), strings.Repeat("-", 10000),
	}
	for _, s := range forms {
		if got, e := dec.Read(s); e != api.ErrForm || got != (api.Dec{}) {
			t.Errorf("2.2: Read(%q) = %+v, %d, want ErrForm", s, got, e)
		}
	}
	overs := []string{
		nines + ".0", nines + ".9", "-" + nines + ".999999999",
		"1" + nines[:21] + ".999999999", "1000000000000000000000.000000000", "-100000000000000000000000000000.0",
		// Its number is 2 to the 128 and 32 more: what were cut off there would be right.
		"340282366920938463463374607431.768211488",
	}
	for _, s := range overs {
		if got, e := dec.Read(s); e != api.ErrOver || got != (api.Dec{}) {
			t.Errorf("2.2: Read(%q) = %+v, %d, want ErrOver", s, got, e)
		}
	}
}

func TestPrint(t *testing.T) {
	for _, c := range []struct {
		a    api.Dec
		want string
	}{
		{api.Dec{}, "0"},
		{api.Dec{Scale: 1}, "0.0"},
		{api.Dec{Scale: 9}, "0.000000000"},
		{api.Dec{C: two{1}, Scale: 9}, "0.000000001"},
		{api.Dec{Neg: true, C: two{5}, Scale: 1}, "-0.5"},
		{api.Dec{Neg: true, C: two{5}, Scale: 2}, "-0.05"},
		{api.Dec{C: two{10}, Scale: 1}, "1.0"},
		{api.Dec{C: two{100}}, "100"},
		{api.Dec{Neg: true, C: two{1250}, Scale: 2}, "-12.50"},
		{api.Dec{C: two{999999999999999}}, "999999999999999"},
		{api.Dec{C: two{1000000000000000}}, "1000000000000000"},
		{api.Dec{C: two{1000000000000007}, Scale: 2}, "10000000000000.07"},
		{api.Dec{C: two{0, 1}}, "18446744073709551616"},
		{api.Dec{Neg: true, C: two{0, 1}, Scale: 4}, "-1844674407370955.1616"},
		{api.Dec{C: lastC()}, nines},
		{api.Dec{Neg: true, C: lastC(), Scale: 9}, "-" + nines[:21] + "." + nines[21:]},
	} {
		if got := dec.Print(c.a); got != c.want {
			t.Errorf("2.2: Print(%+v) = %q, want %q", c.a, got, c.want)
		}
	}
}

// TestPrintAll: the text of many decimals, held against the other library's digits.
func TestPrintAll(t *testing.T) {
	for _, a := range append(rights(), drawn(20000)...) {
		n := signedC(a)
		text := n.Abs(n).String()
		if len(text) <= a.Scale {
			text = strings.Repeat("0", a.Scale+1-len(text)) + text
		}
		if a.Scale > 0 {
			text = text[:len(text)-a.Scale] + "." + text[len(text)-a.Scale:]
		}
		if a.Neg {
			text = "-" + text
		}
		if got := dec.Print(a); got != text {
			t.Errorf("2.2: Print(%+v) = %q, want %q", a, got, text)
		}
	}
}

// TestPrintedIsRead: what is printed is read the same, field by field.
func TestPrintedIsRead(t *testing.T) {
	for _, a := range append(rights(), drawn(20000)...) {
		if got, e := dec.Read(dec.Print(a)); e != api.OK || got != a {
			t.Errorf("2.3: Read(Print(%+v)) = %+v, %d", a, got, e)
		}
	}
}
