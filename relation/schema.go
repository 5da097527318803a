package relation

import (
	"credence/api"
	"credence/bignat"
	"credence/rational"
	"credence/value"
)

// ValidName reports whether s is a name: a letter, then letters, digits and underscores.
func ValidName(s string) bool {
	if s == "" || len(s) > api.MaxNameLen || !isLetter(s[0]) {
		return false
	}
	for _, c := range []byte(s) {
		if !isLetter(c) && (c < '0' || c > '9') && c != '_' {
			return false
		}
	}
	return true
}

// isLetter reports whether c is a letter of ASCII.
func isLetter(c byte) bool {
	return 'A' <= c && c <= 'Z' || 'a' <= c && c <= 'z'
}

// ValidSchema reports whether s may be the schema of a relation.
func ValidSchema(s api.Schema) bool {
	if !ValidName(s.Name) || len(s.Columns) == 0 || len(s.Columns) > api.MaxColumns {
		return false
	}
	for i, c := range s.Columns {
		if !ValidName(c.Name) || hasColumn(s.Columns[:i], c.Name) {
			return false
		}
		if c.Type != api.TypeInt && c.Type != api.TypeString {
			return false
		}
	}
	return !s.Certain || !hasKey(s)
}

// hasColumn reports whether one of the columns has this name.
func hasColumn(columns []api.Column, name string) bool {
	for _, c := range columns {
		if c.Name == name {
			return true
		}
	}
	return false
}

// hasKey reports whether s has a key column.
func hasKey(s api.Schema) bool {
	for _, c := range s.Columns {
		if c.Key {
			return true
		}
	}
	return false
}

// CheckTuple returns OK, or the first reason why t is not a tuple of s.
func CheckTuple(s api.Schema, t api.Tuple) api.Errno {
	if !ValidSchema(s) {
		return api.ErrInvalid
	}
	return checkContent(s, t)
}

// checkContent is CheckTuple for a valid schema.
func checkContent(s api.Schema, t api.Tuple) api.Errno {
	switch {
	case !validValues(s, t.Values):
		return api.ErrType
	case !validProb(s, t.Prob):
		return api.ErrProbability
	}
	return api.OK
}

// validValues reports whether there is one valid value of the right type for each column.
func validValues(s api.Schema, values []api.Value) bool {
	if len(values) != len(s.Columns) {
		return false
	}
	for i, v := range values {
		if v.Type != s.Columns[i].Type || !value.Valid(v) {
			return false
		}
	}
	return true
}

// validProb reports whether p may be the probability of a tuple of s.
func validProb(s api.Schema, p api.Frac) bool {
	order := rational.Cmp(p, api.Frac{Num: api.Nat{1}, Den: api.Nat{1}})
	if rational.Sign(p) < 0 || order > 0 || s.Certain && order != 0 {
		return false
	}
	// Most denominators are short enough as they stand, and reducing long numbers is slow.
	return isShort(p.Den) || isShort(rational.Normalize(p).Den)
}

// isShort reports whether a has at most MaxNatBits bits.
func isShort(a api.Nat) bool {
	return bignat.BitLen(a) <= api.MaxNatBits
}
