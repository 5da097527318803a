package rational

import (
	"strings"

	"credence/api"
	"credence/bignat"
)

// Format returns the canonical text of a: "-3/4", "5", "0".
func Format(a api.Frac) string {
	a = Normalize(a)
	text := bignat.Format(a.Num)
	if a.Neg {
		text = "-" + text
	}
	if isOne(a.Den) {
		return text
	}
	return text + "/" + bignat.Format(a.Den)
}

// Parse returns the number that s denotes: an integer, a quotient such as -3/4 or a decimal fraction such as 0.75. It returns the first error that applies: ErrTooLarge (s is longer than MaxDigits bytes), ErrSyntax (s does not have such a form), ErrDivide (the denominator is 0).
func Parse(s string) (api.Frac, api.Errno) {
	if len(s) > api.MaxDigits {
		return api.Frac{}, api.ErrTooLarge
	}
	digits, neg := strings.CutPrefix(s, "-")
	num, den, ok := parseParts(digits)
	switch {
	case !ok:
		return api.Frac{}, api.ErrSyntax
	case isZero(den):
		return api.Frac{}, api.ErrDivide
	}
	return reduce(neg, num, den), api.OK
}

// parseParts reads a text without a sign as a numerator and a denominator, and reports whether it has the right form.
func parseParts(s string) (num, den api.Nat, ok bool) {
	if before, after, found := strings.Cut(s, "/"); found {
		return parseQuotient(before, after)
	}
	if before, after, found := strings.Cut(s, "."); found {
		return parseDecimal(before, after)
	}
	num, ok = parseDigits(s)
	return num, bignat.FromUint64(1), ok
}

// parseQuotient reads the digits before and behind a slash.
func parseQuotient(before, after string) (num, den api.Nat, ok bool) {
	num, numOK := parseDigits(before)
	den, denOK := parseDigits(after)
	return num, den, numOK && denOK
}

// parseDecimal reads the digits before and behind a decimal point.
func parseDecimal(before, after string) (num, den api.Nat, ok bool) {
	whole, wholeOK := parseDigits(before)
	places, placesOK := parseDigits(after)
	if !wholeOK || !placesOK {
		return nil, nil, false
	}
	// A power of ten with at most MaxDigits zeros is far below MaxNatBits.
	den, _ = bignat.Pow(bignat.FromUint64(10), len(after))
	return bignat.Add(bignat.Mul(whole, den), places), den, true
}

// parseDigits reads one or more decimal digits and reports whether s consists of them. Leading zeros, which bignat rejects, are allowed.
func parseDigits(s string) (api.Nat, bool) {
	digits := strings.TrimLeft(s, "0")
	if digits == "" {
		return nil, s != ""
	}
	a, e := bignat.Parse(digits)
	return a, e == api.OK
}
