package rational

import (
	"math/big"
	"strings"
	"testing"

	"credence/api"
)

func TestFormat(t *testing.T) {
	for _, x := range []struct {
		a    api.Frac
		want string
	}{
		{frac(-3, 4), "-3/4"},
		{frac(5, 1), "5"},
		{frac(-5, 1), "-5"},
		{frac(0, 1), "0"},
		{api.Frac{}, "0"},
		{api.Frac{Neg: true, Den: api.Nat{3}}, "0"},
		{api.Frac{Neg: true, Num: api.Nat{7}, Den: api.Nat{0, 0}}, "0"},
		{frac(6, 4), "3/2"},
		{frac(-8, 4), "-2"},
		{frac(1, 1000), "1/1000"},
		{api.Frac{Num: api.Nat{0, 0, 1}, Den: api.Nat{all, all, 0}}, "18446744073709551616/18446744073709551615"},
	} {
		if got := Format(x.a); got != x.want {
			t.Errorf("Format(%v) is %q, want %q", x.a, got, x.want)
		}
	}
}

func TestTextOfRandomNumbers(t *testing.T) {
	s := newSource(6)
	for i := range 2000 {
		n := 5
		if i%20 == 0 {
			n = 100
		}
		a := randomFrac(s, n)
		text := Format(a)
		if want := toBig(a).RatString(); text != want {
			t.Fatalf("Format(%v) is %q, want %q", a, text, want)
		}
		number, e := Parse(text)
		if e != api.OK {
			t.Fatalf("Parse(%q) reports %d", text, e)
		}
		check(t, "Parse", number, toBig(a))
	}
}

// Format has no limit, also where Parse has one.
func TestFormatOfLargeNumbers(t *testing.T) {
	power := make(api.Nat, 500)
	power[499] = 1
	for _, a := range []api.Frac{{Num: power, Den: api.Nat{1}}, {Neg: true, Num: api.Nat{1}, Den: power}} {
		text := Format(a)
		if text != toBig(a).RatString() {
			t.Error("Format of a large number")
		}
		number, e := Parse(text)
		if e != api.ErrTooLarge {
			t.Errorf("Parse of %d bytes reports %d", len(text), e)
		}
		checkZeroValue(t, "Parse", number)
	}
}

func TestParse(t *testing.T) {
	for _, x := range []struct {
		s        string
		num, den int64
	}{
		{"0", 0, 1},
		{"-0", 0, 1},
		{"000", 0, 1},
		{"7", 7, 1},
		{"-7", -7, 1},
		{"007", 7, 1},
		{"100", 100, 1},
		{"9223372036854775807", 9223372036854775807, 1},
		{"3/4", 3, 4},
		{"-3/4", -3, 4},
		{"6/4", 3, 2},
		{"8/4", 2, 1},
		{"007/014", 1, 2},
		{"0/7", 0, 1},
		{"-0/7", 0, 1},
		{"00/001", 0, 1},
		{"1/10", 1, 10},
		{"0.125", 1, 8},
		{"-2.50", -5, 2},
		{"00.0", 0, 1},
		{"-0.0", 0, 1},
		{"1.0", 1, 1},
		{"1.05", 21, 20},
		{"10.01", 1001, 100},
		{"0.0000000000", 0, 1},
		{"0.000000001", 1, 1000000000},
		{"-00012.3400", -617, 50},
	} {
		a, e := Parse(x.s)
		if e != api.OK {
			t.Fatalf("Parse(%q) reports %d", x.s, e)
		}
		check(t, "Parse of "+x.s, a, big.NewRat(x.num, x.den))
	}
}

func TestParseErrors(t *testing.T) {
	syntax := []string{
		"", "-", "--1", "+1", "-+1", "+-1", " 1", "1 ", "- 1", "1\n", "1\x00", "1e3", "0x1f", "1_000", "1,5", "x", "12a", "1:", "1\xff", "\u0663",
		"/", "1/", "/2", "-/2", "1/-2", "1/+2", "1//2", "1/2/3", "1 /2", "1/ 2", "1/2 ", "1/x", "1/0x", "x/0", "/0", "1/0/0", "0/0-",
		".", "1.", ".5", "-.5", "1..2", "1.2.3", "1.-2", "1.+2", "1. 2", "1.x", "x.1", "1.5/2", "1/2.5", "1.5/0", "0.-0", "00-5", "0.0x",
	}
	for _, s := range syntax {
		checkError(t, s, api.ErrSyntax)
	}
	for _, s := range []string{"1/0", "-1/0", "0/0", "0/000", "12/00", "-0/0"} {
		checkError(t, s, api.ErrDivide)
	}
}

// checkError fails the test if Parse(s) does not report want.
func checkError(t *testing.T, s string, want api.Errno) {
	t.Helper()
	a, e := Parse(s)
	if e != want {
		t.Errorf("Parse of %d bytes, %.20q..: error %d, want %d", len(s), s, e, want)
	}
	checkZeroValue(t, "Parse", a)
}

// digits returns n decimal digits d.
func digits(n int, d string) string {
	return strings.Repeat(d, n)
}

// Texts of exactly MaxDigits bytes are read, and one byte more comes before all other errors.
func TestParseLimits(t *testing.T) {
	const n = api.MaxDigits
	longest := []string{
		digits(n, "9"),
		digits(n, "0"),
		"-" + digits(n-1, "7"),
		"0." + digits(n-3, "0") + "5",
		digits(n-2, "3") + ".5",
		digits(n/2, "1") + "." + digits(n/2-1, "2"),
		"1/" + digits(n-2, "9"),
		digits(n-2, "9") + "/3",
		digits(n/2, "4") + "/" + digits(n/2-1, "6"),
		digits(n-1, "0") + "8",
	}
	for _, s := range longest {
		a, e := Parse(s)
		if e != api.OK {
			t.Fatalf("Parse of %d bytes reports %d", len(s), e)
		}
		want, _ := new(big.Rat).SetString(s)
		check(t, "Parse", a, want)
		checkError(t, "0"+s, api.ErrTooLarge)
	}
	checkError(t, digits(n-1, "9")+"x", api.ErrSyntax)
	checkError(t, digits(n-2, "9")+"/0", api.ErrDivide)
	checkError(t, digits(n+1, "z"), api.ErrTooLarge)
	checkError(t, digits(n, "9")+"/0", api.ErrTooLarge)
	checkError(t, digits(3*n, " "), api.ErrTooLarge)
}
