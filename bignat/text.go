package bignat

import "credence/api"

// Text is read and written in groups of nine decimal digits, the most that fit into one digit of a Nat.
const (
	groupLen  = 9
	groupBase = 1_000_000_000
)

// Format returns the decimal representation of a.
func Format(a api.Nat) string {
	rest := Normalize(a)
	if len(rest) == 0 {
		return "0"
	}
	// Each digit of a needs fewer than 10 decimal digits; the last group may be filled up with zeros.
	text := make([]byte, 10*len(rest)+groupLen)
	start := len(text)
	for len(rest) > 0 {
		group := divideByDigit(rest, groupBase)
		rest = trim(rest)
		for range groupLen {
			start--
			text[start] = '0' + byte(group%10)
			group /= 10
		}
	}
	for text[start] == '0' {
		start++
	}
	return string(text[start:])
}

// Parse returns the number that Format writes as s. It returns ErrTooLarge if s is longer than MaxDigits bytes, ErrSyntax if there is no such number.
func Parse(s string) (api.Nat, api.Errno) {
	if len(s) > api.MaxDigits {
		return nil, api.ErrTooLarge
	}
	if !isDecimal(s) {
		return nil, api.ErrSyntax
	}
	// Nine decimal digits need fewer than 32 bits.
	out := make(api.Nat, 0, len(s)/groupLen+1)
	// The first group takes what does not fill a whole group.
	for end := (len(s)-1)%groupLen + 1; end <= len(s); end += groupLen {
		group := uint64(0)
		for _, c := range []byte(s[max(0, end-groupLen):end]) {
			group = group*10 + uint64(c-'0')
		}
		out = appendGroup(out, group)
	}
	return trim(out), api.OK
}

// isDecimal reports whether s consists of decimal digits without leading zeros.
func isDecimal(s string) bool {
	for _, c := range []byte(s) {
		if c < '0' || c > '9' {
			return false
		}
	}
	return s == "0" || s != "" && s[0] != '0'
}

// appendGroup returns a * groupBase + group, in the memory of a.
func appendGroup(a api.Nat, group uint64) api.Nat {
	carry := group
	for i, d := range a {
		carry += uint64(d) * groupBase
		a[i] = uint32(carry)
		carry >>= digitBits
	}
	if carry != 0 {
		a = append(a, uint32(carry))
	}
	return a
}
