package value

import (
	"bytes"
	"math"
	"math/rand/v2"
	"slices"
	"strings"
	"testing"

	"credence/api"
)

// newSource returns a source that gives the same numbers in every run.
func newSource(seed uint64) *rand.Rand {
	return rand.New(rand.NewPCG(seed, 8))
}

// ascending lists valid values, each less than the next.
func ascending() []api.Value {
	var out []api.Value
	for _, n := range []int64{
		math.MinInt64, math.MinInt64 + 1, -1 << 56, -1 << 32, -1<<31 - 1, -1 << 31, -65537, -65536, -257, -256, -255, -2, -1,
		0, 1, 2, 127, 128, 255, 256, 257, 65535, 65536, 1<<31 - 1, 1 << 31, 1<<32 - 1, 1 << 32, 1 << 56, math.MaxInt64 - 1, math.MaxInt64,
	} {
		out = append(out, NewInt(n))
	}
	for _, s := range []string{
		"", " ", "  ", " ~", "!", "'", "' ", "''", "'''", "-1", "0", "1", "10", "9", "A", "Z", "a", "a ", "a!", "aa", "ab", "b", "~",
		"~" + strings.Repeat(" ", api.MaxStringLen-1), strings.Repeat("~", api.MaxStringLen-1), strings.Repeat("~", api.MaxStringLen),
	} {
		out = append(out, NewString(s))
	}
	return out
}

// invalid lists invalid values.
func invalid() []api.Value {
	out := []api.Value{
		{}, {Int: 7}, {Str: "a"}, {Type: -1}, {Type: 3}, {Type: 3, Str: "a"}, {Type: math.MinInt}, {Type: math.MaxInt}, {Type: 257}, {Type: 258, Str: "a"},
		{Type: api.TypeInt, Str: "a"}, {Type: api.TypeInt, Int: 5, Str: " "}, {Type: api.TypeInt, Int: 5, Str: "5"},
		{Type: api.TypeString, Int: 1}, {Type: api.TypeString, Int: -1, Str: "a"}, {Type: api.TypeString, Int: math.MinInt64, Str: "a"},
	}
	for _, s := range []string{
		"\x00", "\n", "\x1f", "\x7f", "\x80", "\xa0", "\xff", "\x1fab", "a\x1fb", "ab\x1f", "\x7fab", "a\x7fb", "ab\x7f", "a\x00", "\u00e9", "\u2019", "\U0001f600",
		strings.Repeat("a", api.MaxStringLen+1), strings.Repeat("'", api.MaxStringLen+1), strings.Repeat("a", 2*api.MaxStringLen), strings.Repeat(" ", 1000),
		strings.Repeat("a", api.MaxStringLen-1) + "\n", strings.Repeat("\u00e9", api.MaxStringLen/2),
	} {
		out = append(out, NewString(s))
	}
	return out
}

// randomValue returns a valid value. Few bytes and short strings are frequent, so that values often have a common prefix or are equal.
func randomValue(s *rand.Rand) api.Value {
	if s.IntN(2) == 0 {
		return NewInt(int64(s.Uint64()) >> s.IntN(64))
	}
	length := s.IntN(4)
	if s.IntN(8) == 0 {
		length = s.IntN(api.MaxStringLen + 1)
	}
	text := make([]byte, length)
	for i := range text {
		text[i] = []byte{' ', '\'', 'a', '~', byte(32 + s.IntN(95))}[s.IntN(5)]
	}
	return NewString(string(text))
}

// randomList returns up to n valid values.
func randomList(s *rand.Rand, n int) []api.Value {
	out := make([]api.Value, s.IntN(n+1))
	for i := range out {
		out[i] = randomValue(s)
	}
	return out
}

// texts lists all strings of at most n bytes of an alphabet.
func texts(alphabet string, n int) []string {
	out := []string{""}
	for first := 0; n > 0; n-- {
		last := len(out)
		for _, s := range out[first:last] {
			for _, c := range []byte(alphabet) {
				out = append(out, s+string([]byte{c}))
			}
		}
		first = last
	}
	return out
}

// checkErrno fails the test if got is not want.
func checkErrno(t *testing.T, what string, got, want api.Errno) {
	t.Helper()
	if got != want {
		t.Fatalf("%s: got error %d, want %d", what, got, want)
	}
}

// checkOrder fails the test if got is not want.
func checkOrder(t *testing.T, what string, a, b any, got, want int) {
	t.Helper()
	if got != want {
		t.Fatalf("%s of %#v and %#v: got %d, want %d", what, a, b, got, want)
	}
}

// checkBytes fails the test if got is not want.
func checkBytes(t *testing.T, what string, got, want []byte) {
	t.Helper()
	if !bytes.Equal(got, want) {
		t.Fatalf("%s: got % x, want % x", what, got, want)
	}
}

// checkList fails the test if got is not want.
func checkList(t *testing.T, what string, got, want []api.Value) {
	t.Helper()
	if !slices.Equal(got, want) {
		t.Fatalf("%s: got %#v, want %#v", what, got, want)
	}
}
