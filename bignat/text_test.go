package bignat

import (
	"math/big"
	"strings"
	"testing"

	"credence/api"
)

func TestFormat(t *testing.T) {
	for _, x := range []struct {
		a    api.Nat
		want string
	}{
		{nil, "0"},
		{api.Nat{0, 0}, "0"},
		{api.Nat{7}, "7"},
		{api.Nat{10, 0, 0}, "10"},
		{api.Nat{999999999}, "999999999"},
		{api.Nat{1000000000}, "1000000000"},
		{api.Nat{all}, "4294967295"},
		{api.Nat{0, 1}, "4294967296"},
		{api.Nat{all, all}, "18446744073709551615"},
		{api.Nat{0, 0, 1}, "18446744073709551616"},
	} {
		if got := Format(x.a); got != x.want {
			t.Errorf("Format(%v) is %q, want %q", x.a, got, x.want)
		}
	}
}

func TestTextOfRandomNumbers(t *testing.T) {
	s := newSource(1)
	for i := range 2000 {
		n := 8
		if i%20 == 0 {
			n = 400
		}
		a := randomNat(s, n)
		text := Format(a)
		if text != toBig(a).String() {
			t.Fatalf("Format(%v) is %q", a, text)
		}
		number, e := Parse(text)
		if e != api.OK {
			t.Fatalf("Parse(%q) reports %d", text, e)
		}
		check(t, "Parse", number, toBig(a))
	}
}

// Format has no limit, also where Parse has one.
func TestFormatOfLargeNumbers(t *testing.T) {
	for _, a := range []api.Nat{filled(416, all), filled(3000, all), append(make(api.Nat, 2999), 1)} {
		if Format(a) != toBig(a).String() {
			t.Error("Format of digits", len(a))
		}
	}
}

func TestPowersOfTen(t *testing.T) {
	for n := range 100 {
		power := new(big.Int).Exp(big.NewInt(10), big.NewInt(int64(n)), nil)
		for _, x := range []*big.Int{power, new(big.Int).Sub(power, big.NewInt(1)), new(big.Int).Add(power, big.NewInt(1))} {
			if got := Format(fromBig(x)); got != x.String() {
				t.Errorf("Format is %q, want %q", got, x.String())
			}
			a, e := Parse(x.String())
			if e != api.OK {
				t.Fatal(x, e)
			}
			check(t, "Parse", a, x)
		}
	}
}

func TestParseErrors(t *testing.T) {
	nines := strings.Repeat("9", api.MaxDigits)
	for _, x := range []struct {
		s    string
		want api.Errno
	}{
		{"0", api.OK},
		{"9", api.OK},
		{nines, api.OK},
		{"1" + nines[1:], api.OK},
		{"", api.ErrSyntax},
		{"00", api.ErrSyntax},
		{"01", api.ErrSyntax},
		{"0" + nines[1:], api.ErrSyntax},
		{"+1", api.ErrSyntax},
		{"-1", api.ErrSyntax},
		{"-0", api.ErrSyntax},
		{" 1", api.ErrSyntax},
		{"1 ", api.ErrSyntax},
		{"1\n", api.ErrSyntax},
		{"1\x00", api.ErrSyntax},
		{"1_000", api.ErrSyntax},
		{"1,000", api.ErrSyntax},
		{"1.0", api.ErrSyntax},
		{"1e3", api.ErrSyntax},
		{"0x1f", api.ErrSyntax},
		{"12a", api.ErrSyntax},
		{"12/", api.ErrSyntax},
		{"12:", api.ErrSyntax},
		{"\u0663", api.ErrSyntax},
		{"1\xff", api.ErrSyntax},
		{nines[1:] + "x", api.ErrSyntax},
		{"x" + nines[1:], api.ErrSyntax},
		{nines + "9", api.ErrTooLarge},
		{nines + "x", api.ErrTooLarge},
		{"0" + nines, api.ErrTooLarge},
		{strings.Repeat(" ", 3*api.MaxDigits), api.ErrTooLarge},
	} {
		a, e := Parse(x.s)
		if e != x.want {
			t.Fatalf("Parse of %d bytes, %.20q..: error %d, want %d", len(x.s), x.s, e, x.want)
		}
		if e != api.OK {
			checkEmpty(t, "number without text", a)
			continue
		}
		want, _ := new(big.Int).SetString(x.s, 10)
		check(t, "Parse", a, want)
	}
}
