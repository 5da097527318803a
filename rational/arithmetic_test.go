package rational

import (
	"math/big"
	"slices"
	"testing"

	"credence/api"
)

// edges are numbers that need not be reduced, 0 in several forms among them.
func edges() []api.Frac {
	var out []api.Frac
	for _, x := range forms {
		out = append(out, x.a)
	}
	return append(out,
		api.Frac{Num: api.Nat{all, all, all}, Den: api.Nat{all}},
		api.Frac{Neg: true, Num: api.Nat{1}, Den: api.Nat{all, all, all}},
		api.Frac{Num: api.Nat{0, 0, 0, 0x80000000}, Den: api.Nat{0, 0x40000000, 0, 0}},
		frac(1, 2), frac(-1, 2), frac(1, 3), frac(-2, 3), frac(4, 3))
}

// checkPair compares all operations on a and b with those of math/big.
func checkPair(t *testing.T, a, b api.Frac) {
	t.Helper()
	x, y := toBig(a), toBig(b)
	check(t, "Add", Add(a, b), new(big.Rat).Add(x, y))
	check(t, "Sub", Sub(a, b), new(big.Rat).Sub(x, y))
	check(t, "Mul", Mul(a, b), new(big.Rat).Mul(x, y))
	check(t, "Neg", Neg(a), new(big.Rat).Neg(x))
	check(t, "Complement", Complement(a), new(big.Rat).Sub(big.NewRat(1, 1), x))
	checkOrder(t, a, b)
	checkQuotient(t, a, b)
}

// checkQuotient compares Div with math/big.
func checkQuotient(t *testing.T, a, b api.Frac) {
	t.Helper()
	quotient, e := Div(a, b)
	if toBig(b).Sign() == 0 {
		if e != api.ErrDivide {
			t.Fatalf("Div(%v, %v) reports %d", a, b, e)
		}
		checkZeroValue(t, "Div", quotient)
		return
	}
	if e != api.OK {
		t.Fatalf("Div(%v, %v) reports %d", a, b, e)
	}
	check(t, "Div", quotient, new(big.Rat).Quo(toBig(a), toBig(b)))
}

func TestEdges(t *testing.T) {
	for _, a := range edges() {
		for _, b := range edges() {
			checkPair(t, a, b)
		}
	}
}

func TestSmallNumbers(t *testing.T) {
	var small []api.Frac
	for num := int32(-7); num <= 7; num++ {
		for den := range uint32(8) {
			small = append(small, frac(num, den))
		}
	}
	for _, a := range small {
		for _, b := range small {
			checkPair(t, a, b)
		}
	}
}

func TestRandomNumbers(t *testing.T) {
	s := newSource(2)
	for range 5000 {
		checkPair(t, randomFrac(s, 4), randomFrac(s, 3))
	}
}

func TestLongNumbers(t *testing.T) {
	s := newSource(3)
	for range 100 {
		checkPair(t, randomFrac(s, 200), randomFrac(s, 200))
		checkPair(t, randomFrac(s, 2), randomFrac(s, 200))
	}
}

func TestLists(t *testing.T) {
	s := newSource(4)
	for range 500 {
		var l []api.Frac
		sum, product := new(big.Rat), big.NewRat(1, 1)
		for range s.IntN(12) {
			a := randomFrac(s, 2)
			if s.IntN(3) > 0 {
				a.Den = api.Nat{1 + s.Uint32N(6)}
			}
			l = append(l, a)
			sum.Add(sum, toBig(a))
			product.Mul(product, toBig(a))
		}
		check(t, "Sum", Sum(l), sum)
		check(t, "Product", Product(l), product)
	}
}

func TestShortLists(t *testing.T) {
	for _, l := range [][]api.Frac{nil, {}} {
		check(t, "Sum", Sum(l), new(big.Rat))
		check(t, "Product", Product(l), big.NewRat(1, 1))
	}
	for _, a := range edges() {
		check(t, "Sum", Sum([]api.Frac{a}), toBig(a))
		check(t, "Product", Product([]api.Frac{a}), toBig(a))
	}
}

// The sum of all 1/(n(n+1)) and the product of all n/(n+1) collapse to short numbers.
func TestLongLists(t *testing.T) {
	const n = 3000
	var terms, factors []api.Frac
	for i := range int32(n) {
		terms = append(terms, frac(1, uint32((i+1)*(i+2))))
		factors = append(factors, frac(-(i+1), uint32(i+2)))
	}
	check(t, "Sum", Sum(terms), big.NewRat(n, n+1))
	check(t, "Product", Product(factors), big.NewRat(1, n+1))
	check(t, "Product", Product(append(factors, api.Frac{})), new(big.Rat))
}

func TestListArgumentsStay(t *testing.T) {
	l := append(edges(), frac(1, 9))
	l, rest := l[:len(l)-1], slices.Clone(l)
	Sum(l)
	Product(l)
	for i, a := range l[:len(l)+1] {
		if a.Neg != rest[i].Neg || !slices.Equal(a.Num, rest[i].Num) || !slices.Equal(a.Den, rest[i].Den) {
			t.Fatal("an element was modified", i)
		}
	}
}

// The laws of P2.4.
func TestLaws(t *testing.T) {
	s := newSource(5)
	one := frac(1, 1)
	for range 2000 {
		a, b, c := randomFrac(s, 3), randomFrac(s, 3), randomFrac(s, 3)
		same := func(law string, x, y api.Frac) {
			t.Helper()
			check(t, law, x, toBig(y))
		}
		same("a + b = b + a", Add(a, b), Add(b, a))
		same("a * b = b * a", Mul(a, b), Mul(b, a))
		same("(a + b) + c = a + (b + c)", Add(Add(a, b), c), Add(a, Add(b, c)))
		same("(a * b) * c = a * (b * c)", Mul(Mul(a, b), c), Mul(a, Mul(b, c)))
		same("a * (b + c) = a * b + a * c", Mul(a, Add(b, c)), Add(Mul(a, b), Mul(a, c)))
		same("a + 0 = a", Add(a, api.Frac{}), a)
		same("a * 1 = a", Mul(a, one), a)
		same("a - b = a + (-b)", Sub(a, b), Add(a, Neg(b)))
		same("a + (-a) = 0", Add(a, Neg(a)), api.Frac{})
		if inverse, e := Div(one, b); Sign(b) != 0 {
			same("b * (1 / b) = 1", Mul(b, inverse), one)
		} else if e != api.ErrDivide {
			t.Fatal("1 / 0 reports", e)
		}
		checkOrderLaws(t, a, b, c)
		number, e := Parse(Format(a))
		if e != api.OK {
			t.Fatal("Parse(Format(a)) reports", e)
		}
		same("Parse(Format(a)) = a", number, Normalize(a))
	}
}

// checkOrderLaws checks that the order agrees with the operations.
func checkOrderLaws(t *testing.T, a, b, c api.Frac) {
	t.Helper()
	order := Cmp(a, b)
	switch {
	case Cmp(b, a) != -order, Cmp(a, a) != 0, Sign(Sub(a, b)) != order:
		t.Fatal("order and difference", a, b)
	case Cmp(Add(a, c), Add(b, c)) != order:
		t.Fatal("order and sum", a, b, c)
	case Cmp(Mul(a, c), Mul(b, c)) != order*Sign(c):
		t.Fatal("order and product", a, b, c)
	case Sign(Mul(a, b)) != Sign(a)*Sign(b):
		t.Fatal("sign of a product", a, b)
	}
}
