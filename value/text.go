package value

import (
	"strconv"
	"strings"

	"credence/api"
)

// A quote within a string is written as two.
const (
	quote     = "'"
	twoQuotes = "''"
)

// Format returns the text of v: a decimal number, or a quoted string. It is empty if v is invalid.
func Format(v api.Value) string {
	switch {
	case !Valid(v):
		return ""
	case v.Type == api.TypeInt:
		return strconv.FormatInt(v.Int, 10)
	}
	return quote + strings.ReplaceAll(v.Str, quote, twoQuotes) + quote
}

// Parse returns the valid value that Format writes as s, or ErrSyntax if there is none.
func Parse(s string) (api.Value, api.Errno) {
	// Only one value is possible. Format tells whether s is exactly its text.
	v := candidate(s)
	if !Valid(v) || Format(v) != s {
		return api.Value{}, api.ErrSyntax
	}
	return v, api.OK
}

// candidate returns the value whose text is s. If there is none, the result is invalid or has another text.
func candidate(s string) api.Value {
	if inner, found := strings.CutPrefix(s, quote); found {
		inner = strings.TrimSuffix(inner, quote)
		return NewString(strings.ReplaceAll(inner, twoQuotes, quote))
	}
	n, err := strconv.ParseInt(s, 10, 64)
	if err != nil {
		return api.Value{}
	}
	return NewInt(n)
}
