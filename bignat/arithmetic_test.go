package bignat

import (
	"math/big"
	"testing"

	"credence/api"
)

// edges are numbers at which digits overflow or vanish.
var edges = []api.Nat{
	nil, {0}, {0, 0, 0}, {1}, {2, 0}, {3}, {10}, {all}, {0x80000000}, {0, 1}, {1, 1}, {all, all}, {0, 0x80000000},
	{0, 0, 1}, {1, 0, 1}, {all, all, all}, {all, 0, all}, {0, all, 0}, {0, 0, 0x80000000}, {1, 0x80000000},
	{0, 0xfffffffe, 0x80000000}, {all, 0x80000000}, {3, 0, 0x80000000, 0x7fffffff}, {1, 0, 0x80000000},
	{3, 0, 0x80000000}, {1, 0, 0x20000000}, {0, 0, 0x8000, 0x7fff}, {1, 0, 0x8000}, {0, 0, 0, 1}, {all, all, all, all, 0},
}

// checkPair compares all operations on a and b with those of math/big.
func checkPair(t *testing.T, a, b api.Nat) {
	t.Helper()
	x, y := toBig(a), toBig(b)
	check(t, "Add", Add(a, b), new(big.Int).Add(x, y))
	check(t, "Mul", Mul(a, b), new(big.Int).Mul(x, y))
	check(t, "GCD", GCD(a, b), new(big.Int).GCD(nil, nil, x, y))
	difference, ok := Sub(a, b)
	switch {
	case ok != (x.Cmp(y) >= 0):
		t.Fatal("Sub reports", ok, a, b)
	case ok:
		check(t, "Sub", difference, new(big.Int).Sub(x, y))
	default:
		checkEmpty(t, "Sub", difference)
	}
	if Cmp(a, b) != x.Cmp(y) || BitLen(a) != x.BitLen() {
		t.Fatal("Cmp or BitLen", a, b)
	}
	checkDivision(t, a, b)
}

// checkDivision compares DivMod with math/big.
func checkDivision(t *testing.T, a, b api.Nat) {
	t.Helper()
	x, y := toBig(a), toBig(b)
	q, r, ok := DivMod(a, b)
	if ok != (y.Sign() != 0) {
		t.Fatal("DivMod reports", ok, a, b)
	}
	if !ok {
		checkEmpty(t, "quotient by 0", q)
		checkEmpty(t, "remainder by 0", r)
		return
	}
	wantQ, wantR := new(big.Int).DivMod(x, y, new(big.Int))
	check(t, "quotient", q, wantQ)
	check(t, "remainder", r, wantR)
}

func TestEdges(t *testing.T) {
	for _, a := range edges {
		for _, b := range edges {
			checkPair(t, a, b)
		}
	}
}

func TestSmallNumbers(t *testing.T) {
	for a := range uint64(40) {
		for b := range uint64(40) {
			checkPair(t, FromUint64(a), FromUint64(b))
		}
	}
}

func TestRandomNumbers(t *testing.T) {
	s := newSource(1)
	for range 20000 {
		checkPair(t, randomNat(s, 8), randomNat(s, 6))
	}
}

func TestLongNumbers(t *testing.T) {
	s := newSource(2)
	for range 300 {
		checkPair(t, randomNat(s, 400), randomNat(s, 400))
		checkPair(t, randomNat(s, 40), randomNat(s, 400))
	}
}

// The lengths lie around those at which Mul changes its method.
func TestProductLengths(t *testing.T) {
	s := newSource(3)
	for _, m := range []int{1, 2, 46, 47, 48, 49, 50, 95, 96, 97, 98, 145, 193, 385} {
		for _, n := range []int{1, 2, 46, 47, 48, 49, 50, 95, 96, 97, 98, 145, 193, 385} {
			a, b := filled(m, all), filled(n, all)
			check(t, "product of extreme digits", Mul(a, b), new(big.Int).Mul(toBig(a), toBig(b)))
			a[s.IntN(m)], b[s.IntN(n)] = 0, 0
			for i := range m / 2 {
				a[i] = 0
			}
			check(t, "product of a half-empty number", Mul(a, b), new(big.Int).Mul(toBig(a), toBig(b)))
		}
	}
}

func TestLargeNumbers(t *testing.T) {
	a, b := filled(20000, all), filled(7001, 0x12345678)
	x, y := toBig(a), toBig(b)
	check(t, "Mul", Mul(a, b), new(big.Int).Mul(x, y))
	check(t, "Add", Add(a, b), new(big.Int).Add(x, y))
	checkDivision(t, a, b)
}

// A remainder just below the divisor and one of 0 make wrong quotient digits visible.
func TestDivisionBoundaries(t *testing.T) {
	s := newSource(4)
	for range 3000 {
		b, q := randomNat(s, 7), randomNat(s, 7)
		if BitLen(b) == 0 {
			continue
		}
		rest, _ := Sub(b, api.Nat{1})
		a := Mul(b, q)
		checkDivision(t, a, b)
		checkDivision(t, Add(a, rest), b)
		if less, ok := Sub(a, api.Nat{1}); ok {
			checkDivision(t, less, b)
		}
	}
}

func TestDivisionByZero(t *testing.T) {
	for _, zero := range []api.Nat{nil, {}, {0}, {0, 0, 0}} {
		for _, a := range []api.Nat{nil, {0}, {7}, {1, 2, 3, 4}} {
			checkDivision(t, a, zero)
		}
	}
}

func TestGCDOfZero(t *testing.T) {
	checkEmpty(t, "GCD(0, 0)", GCD(nil, nil))
	checkEmpty(t, "GCD(0, 0)", GCD(api.Nat{0, 0}, api.Nat{0}))
	for _, a := range edges {
		check(t, "GCD(a, 0)", GCD(a, nil), toBig(a))
		check(t, "GCD(0, a)", GCD(api.Nat{0, 0, 0}, a), toBig(a))
	}
}

func TestGCDWithCommonFactor(t *testing.T) {
	s := newSource(5)
	for range 2000 {
		a, b, c := randomNat(s, 12), randomNat(s, 12), randomNat(s, 12)
		a, b = Mul(a, c), Mul(b, c)
		check(t, "GCD", GCD(a, b), new(big.Int).GCD(nil, nil, toBig(a), toBig(b)))
	}
}

// Neighbouring Fibonacci numbers need the most steps; all their quotients are 1.
func TestGCDOfFibonacciNumbers(t *testing.T) {
	a, b := FromUint64(0), FromUint64(1)
	for range 3000 {
		a, b = b, Add(a, b)
		check(t, "GCD", GCD(a, b), big.NewInt(1))
		check(t, "GCD", GCD(Mul(b, b), Mul(a, b)), toBig(b))
	}
}

// Numbers that agree in their highest digits, or differ in length, leave no quotient that the highest bits confirm.
func TestGCDWithoutLeadingSteps(t *testing.T) {
	for _, x := range [][2]api.Nat{
		{{7, 0, 0, 0, 1}, {0, 0, 0, 0, 1}},
		{{1, 2, 3, 4, 5, 6, 7, 8, 9}, {9, 8, 7, 6}},
		{{5, 0, 0, 0, all, all}, {0, 5, 0, 0, all, all}},
		{{0, 0, 0, 0, 0, 0, 1}, {6, 0, 1}},
		{filled(200, all), filled(150, all)},
	} {
		check(t, "GCD", GCD(x[0], x[1]), new(big.Int).GCD(nil, nil, toBig(x[0]), toBig(x[1])))
	}
}

// The laws of P1.5, on numbers up to those that Mul splits.
func TestLaws(t *testing.T) {
	s := newSource(6)
	for i := range 1500 {
		n := 9
		if i%10 == 0 {
			n = 200
		}
		a, b, c := randomNat(s, n), randomNat(s, n), randomNat(s, n)
		same := func(law string, x, y api.Nat) {
			t.Helper()
			check(t, law, x, toBig(y))
		}
		same("a + b = b + a", Add(a, b), Add(b, a))
		same("a * b = b * a", Mul(a, b), Mul(b, a))
		same("(a + b) + c = a + (b + c)", Add(Add(a, b), c), Add(a, Add(b, c)))
		same("(a * b) * c = a * (b * c)", Mul(Mul(a, b), c), Mul(a, Mul(b, c)))
		same("a * (b + c) = a * b + a * c", Mul(a, Add(b, c)), Add(Mul(a, b), Mul(a, c)))
		difference, ok := Sub(Add(a, b), b)
		if !ok {
			t.Fatal("a + b is less than b")
		}
		same("(a + b) - b = a", difference, a)
		if q, r, ok := DivMod(Mul(a, b), b); ok {
			same("a * b / b = a", q, a)
			checkEmpty(t, "a * b mod b", r)
		}
		if number, e := Parse(Format(a)); e == api.OK {
			same("Parse(Format(a)) = a", number, a)
		} else {
			t.Fatal("Parse(Format(a)) reports", e)
		}
	}
}
