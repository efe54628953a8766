package dec

import (
	"strconv"
	"strings"

	"pyx/api"
	"pyx/limb"
)

// Read is the decimal that s tells, with as many digits behind the point as its Scale.
func Read(s string) (api.Dec, api.Errno) {
	text, neg := strings.CutPrefix(s, "-")
	whole, part, point := strings.Cut(text, ".")
	if !digits(whole, api.Digits) || point && !digits(part, api.MaxScale) {
		return api.Dec{}, api.ErrForm
	}
	c, ok := number(whole + part)
	if !ok {
		return api.Dec{}, api.ErrOver
	}
	if neg && c == limb.Of(0) {
		return api.Dec{}, api.ErrForm
	}
	return checked(neg, c, len(part))
}

// Print is the text of a, that Read reads the same; no text, if a is not right.
func Print(a api.Dec) string {
	if !Right(a) {
		return ""
	}
	text := figures(a.C, a.Scale+1)
	if a.Scale > 0 {
		at := len(text) - a.Scale
		text = text[:at] + "." + text[at:]
	}
	if a.Neg {
		text = "-" + text
	}
	return text
}

// digits: s is 1 to most digits, and nothing else.
func digits(s string, most int) bool {
	if len(s) < 1 || len(s) > most {
		return false
	}
	for i := range len(s) {
		if s[i] < '0' || s[i] > '9' {
			return false
		}
	}
	return true
}

// number is what the digits of s tell; false, if it has more than Digits of them without the zeros ahead.
func number(s string) ([2]uint64, bool) {
	c := limb.Of(0)
	for i := range len(s) {
		// As c is below ten to Digits, ten times it, and a digit, has room in two words.
		c, _ = limb.Short(limb.Mul(c, limb.Of(10)))
		c, _ = limb.Add(c, limb.Of(uint64(s[i]-'0')))
		if !fits(c) {
			return [2]uint64{}, false
		}
	}
	return c, true
}

// figures is the digits of c, that has at most Digits of them, with zeros ahead up to least.
func figures(c [2]uint64, least int) string {
	// Each half of the digits has room in one word.
	const half = api.Digits / 2
	ten, _ := limb.Ten(half)
	high, low, _ := limb.Div(limb.Wide(c), ten)
	text := strconv.FormatUint(high[0], 10) + padded(strconv.FormatUint(low[0], 10), half)
	return padded(strings.TrimLeft(text, "0"), least)
}

// padded is s with zeros ahead, up to least bytes.
func padded(s string, least int) string {
	return strings.Repeat("0", max(least-len(s), 0)) + s
}
