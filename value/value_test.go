package value

import (
	"math"
	"strings"
	"testing"

	"credence/api"
)

func TestNew(t *testing.T) {
	for _, n := range []int64{math.MinInt64, -5, -1, 0, 1, 300, math.MaxInt64} {
		if got := NewInt(n); got != (api.Value{Type: api.TypeInt, Int: n}) {
			t.Errorf("NewInt(%d) is %#v", n, got)
		}
	}
	// NewString does not check its argument.
	for _, s := range []string{"", "a", "it's", "'a'", "5", "\x00\x7f\xff", "\u00e9", strings.Repeat("a", 1000)} {
		if got := NewString(s); got != (api.Value{Type: api.TypeString, Str: s}) {
			t.Errorf("NewString(%q) is %#v", s, got)
		}
	}
}

func TestValid(t *testing.T) {
	for _, v := range ascending() {
		if !Valid(v) {
			t.Errorf("%#v is not valid", v)
		}
	}
	for _, v := range invalid() {
		if Valid(v) {
			t.Errorf("%#v is valid", v)
		}
	}
}

// Each byte, alone, at the end and before it.
func TestValidBytes(t *testing.T) {
	for c := range 256 {
		want := 32 <= c && c <= 126
		for _, around := range [][2]string{{"", ""}, {"a", ""}, {"", "a"}, {strings.Repeat("x", api.MaxStringLen/2), strings.Repeat("y", api.MaxStringLen/2-1)}} {
			v := NewString(around[0] + string([]byte{byte(c)}) + around[1])
			if Valid(v) != want {
				t.Errorf("Valid(%#v) is %v", v, !want)
			}
		}
	}
}

func TestValidLengths(t *testing.T) {
	for n := range 3 * api.MaxStringLen {
		if v := NewString(strings.Repeat("a", n)); Valid(v) != (n <= api.MaxStringLen) {
			t.Errorf("a string of %d bytes: Valid is %v", n, Valid(v))
		}
	}
}

// All types with all kinds of content.
func TestValidFields(t *testing.T) {
	for kind := -300; kind <= 300; kind++ {
		for _, n := range []int64{math.MinInt64, -1, 0, 1, math.MaxInt64} {
			for _, s := range []string{"", "a", "\x1f"} {
				want := kind == api.TypeInt && s == "" || kind == api.TypeString && n == 0 && s != "\x1f"
				if v := (api.Value{Type: kind, Int: n, Str: s}); Valid(v) != want {
					t.Fatalf("Valid(%#v) is %v", v, !want)
				}
			}
		}
	}
}
