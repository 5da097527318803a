package value

import (
	"cmp"
	"slices"
	"strings"

	"credence/api"
)

// Compare compares Type, then Int, then Str. The values need not be valid.
func Compare(a, b api.Value) int {
	if a.Type != b.Type {
		return cmp.Compare(a.Type, b.Type)
	}
	if a.Int != b.Int {
		return cmp.Compare(a.Int, b.Int)
	}
	return strings.Compare(a.Str, b.Str)
}

// CompareTuples compares two lists lexicographically. A proper prefix is smaller.
func CompareTuples(a, b []api.Value) int {
	return slices.CompareFunc(a, b, Compare)
}
