package value

import (
	"math"
	"math/big"
	"strings"
	"testing"

	"credence/api"
)

func TestFormat(t *testing.T) {
	for _, x := range []struct {
		v    api.Value
		want string
	}{
		{NewInt(0), "0"}, {NewInt(-5), "-5"}, {NewInt(1000), "1000"}, {NewInt(-10), "-10"},
		{NewInt(math.MaxInt64), "9223372036854775807"}, {NewInt(math.MinInt64), "-9223372036854775808"},
		{NewString(""), "''"}, {NewString("a"), "'a'"}, {NewString("it's"), "'it''s'"}, {NewString("'"), "''''"}, {NewString("''"), "''''''"},
		{NewString("'a"), "'''a'"}, {NewString("a'"), "'a'''"}, {NewString("5"), "'5'"}, {NewString(" "), "' '"}, {NewString(`"\n"`), `'"\n"'`},
		{NewString(strings.Repeat("'", api.MaxStringLen)), strings.Repeat("'", 2*api.MaxStringLen+2)},
	} {
		if got := Format(x.v); got != x.want {
			t.Errorf("Format(%#v) is %q, want %q", x.v, got, x.want)
		}
	}
	for _, v := range invalid() {
		if got := Format(v); got != "" {
			t.Errorf("Format(%#v) is %q", v, got)
		}
	}
}

// wantText is the text of a valid value by the definition.
func wantText(v api.Value) string {
	if v.Type == api.TypeInt {
		return big.NewInt(v.Int).String()
	}
	out := []byte{'\''}
	for _, c := range []byte(v.Str) {
		if c == '\'' {
			out = append(out, '\'')
		}
		out = append(out, c)
	}
	return string(append(out, '\''))
}

// checkParse fails the test if Parse(s) is not the valid value v.
func checkParse(t *testing.T, s string, v api.Value) {
	t.Helper()
	got, e := Parse(s)
	checkErrno(t, "Parse of "+s, e, api.OK)
	if got != v {
		t.Fatalf("Parse(%q) is %#v, want %#v", s, got, v)
	}
}

// checkNoText fails the test if Parse(s) is not an error.
func checkNoText(t *testing.T, s string) {
	t.Helper()
	got, e := Parse(s)
	if e != api.ErrSyntax || got != (api.Value{}) {
		t.Fatalf("Parse of %d bytes, %.20q: got %#v and error %d", len(s), s, got, e)
	}
}

func TestTextOfValues(t *testing.T) {
	l := ascending()
	s := newSource(2)
	for range 20000 {
		l = append(l, randomValue(s))
	}
	for _, v := range l {
		text := Format(v)
		if text != wantText(v) {
			t.Fatalf("Format(%#v) is %q, want %q", v, text, wantText(v))
		}
		checkParse(t, text, v)
		checkNoText(t, text+" ")
		checkNoText(t, " "+text)
		checkNoText(t, text+"'")
		checkNoText(t, "+"+text)
	}
}

func TestParseErrors(t *testing.T) {
	for _, s := range []string{
		"", " ", "-", "+", "+1", "--1", "-+1", "-0", "+0", "00", "01", "-01", "1 ", " 1", "- 1", "1\n", "1\x00", "1.0", "1.", ".5", "1e3", "1_000", "0x1f", "0b1", "0o7", "017",
		"1/2", "abc", "a", "x1", "1x", "\u0663", "1\xff", "9223372036854775808", "-9223372036854775809", "10000000000000000000", "18446744073709551616", "-18446744073709551617",
		"'", "'''", "'''''", "'a", "a'", "a", "'a''", "'a'b'", "'a' ", " 'a'", "'a'x", "'a''''", "''a'", "'a'1", "''''a'", "''1", "1''", "''''''a", `"a"`, "`a`", `'a\'b'`,
		"-''", "-'1'", "'\n'", "'\x00'", "'\x1f'", "'\x7f'", "'\x80'", "'\xff'", "'a\x1fb'", "'\u00e9'", "'a\x00", "\u2019a\u2019",
		quoted(strings.Repeat("a", api.MaxStringLen+1)), quoted(strings.Repeat("''", api.MaxStringLen+1)), quoted(strings.Repeat("'", api.MaxStringLen-1)),
		strings.Repeat("9", 1000), "-" + strings.Repeat("0", 1000), strings.Repeat("0", 20) + "7", strings.Repeat("a", 100000), quoted(strings.Repeat("'", 100000)), "'" + strings.Repeat(" ", 100000),
	} {
		checkNoText(t, s)
	}
}

// quoted returns s between two quotes.
func quoted(s string) string {
	return "'" + s + "'"
}

// The longest strings and the greatest numbers are read.
func TestParseLimits(t *testing.T) {
	const n = api.MaxStringLen
	for _, c := range []string{"a", " ", "~", "0"} {
		checkParse(t, quoted(strings.Repeat(c, n)), NewString(strings.Repeat(c, n)))
		checkNoText(t, quoted(strings.Repeat(c, n+1)))
	}
	checkParse(t, quoted(strings.Repeat("''", n)), NewString(strings.Repeat("'", n)))
	checkParse(t, quoted("''"+strings.Repeat("b", n-2)+"''"), NewString("'"+strings.Repeat("b", n-2)+"'"))
	checkNoText(t, quoted("''"+strings.Repeat("b", n-1)+"''"))
	checkParse(t, "9223372036854775807", NewInt(math.MaxInt64))
	checkParse(t, "-9223372036854775808", NewInt(math.MinInt64))
}

// Every byte within a string.
func TestParseBytes(t *testing.T) {
	for c := range 256 {
		s := string([]byte{'x', byte(c), 'y'})
		if 32 <= c && c <= 126 && c != '\'' {
			checkParse(t, quoted(s), NewString(s))
		} else {
			checkNoText(t, quoted(s))
		}
		if digit := string([]byte{byte(c)}); '0' <= c && c <= '9' {
			checkParse(t, digit, NewInt(int64(c-'0')))
		} else {
			checkNoText(t, digit)
		}
	}
}

// Every short string over some bytes is read if it is the text of a value, and only then.
func TestParseAllShortStrings(t *testing.T) {
	const alphabet, longest = "'-+01 a_\x1f\x7f", 6
	want := map[string]api.Value{}
	for _, s := range texts(alphabet, longest-2) {
		if v := NewString(s); Valid(v) {
			want[wantText(v)] = v
		}
	}
	for n := int64(-99999); n <= 999999; n++ {
		want[wantText(NewInt(n))] = NewInt(n)
	}
	for _, s := range texts(alphabet, longest) {
		if v, found := want[s]; found {
			checkParse(t, s, v)
		} else {
			checkNoText(t, s)
		}
	}
}
