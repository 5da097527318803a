package rational

import (
	"math"
	"math/big"
	"slices"
	"testing"

	"credence/api"
)

// forms lists fractions with their values and whether they are canonical.
var forms = []struct {
	a         api.Frac
	num, den  int64
	canonical bool
}{
	{api.Frac{}, 0, 1, false},
	{api.Frac{Neg: true}, 0, 1, false},
	{api.Frac{Num: api.Nat{}, Den: api.Nat{}}, 0, 1, false},
	{api.Frac{Num: api.Nat{5}}, 0, 1, false},
	{api.Frac{Num: api.Nat{1}}, 0, 1, false},
	{api.Frac{Neg: true, Num: api.Nat{1}, Den: api.Nat{0, 0}}, 0, 1, false},
	{api.Frac{Den: api.Nat{1}}, 0, 1, true},
	{api.Frac{Num: api.Nat{}, Den: api.Nat{1}}, 0, 1, true},
	{api.Frac{Neg: true, Den: api.Nat{1}}, 0, 1, false},
	{api.Frac{Num: api.Nat{0}, Den: api.Nat{1}}, 0, 1, false},
	{api.Frac{Den: api.Nat{1, 0}}, 0, 1, false},
	{api.Frac{Den: api.Nat{2}}, 0, 1, false},
	{api.Frac{Neg: true, Num: api.Nat{0, 0}, Den: api.Nat{9, 0}}, 0, 1, false},
	{frac(1, 1), 1, 1, true},
	{frac(-1, 1), -1, 1, true},
	{frac(5, 1), 5, 1, true},
	{frac(-3, 4), -3, 4, true},
	{frac(7, 7), 1, 1, false},
	{frac(-2, 4), -1, 2, false},
	{frac(6, 3), 2, 1, false},
	{frac(15, 35), 3, 7, false},
	{api.Frac{Num: api.Nat{1, 0}, Den: api.Nat{2}}, 1, 2, false},
	{api.Frac{Num: api.Nat{1}, Den: api.Nat{2, 0}}, 1, 2, false},
	{api.Frac{Neg: true, Num: api.Nat{4, 0}, Den: api.Nat{6, 0, 0}}, -2, 3, false},
	{api.Frac{Num: api.Nat{0, 1}, Den: api.Nat{3}}, 1 << 32, 3, true},
	{api.Frac{Num: api.Nat{3}, Den: api.Nat{0, 1}}, 3, 1 << 32, true},
	{api.Frac{Num: api.Nat{0, 6}, Den: api.Nat{0, 4}}, 3, 2, false},
	{api.Frac{Num: api.Nat{0, 0, 1}, Den: api.Nat{0, 0, 0, 1}}, 1, 1 << 32, false},
}

func TestForms(t *testing.T) {
	for _, x := range forms {
		check(t, "Normalize", Normalize(x.a), big.NewRat(x.num, x.den))
		if got := IsCanonical(x.a); got != x.canonical {
			t.Errorf("IsCanonical(%v) is %v", x.a, got)
		}
		if !IsCanonical(Normalize(x.a)) {
			t.Errorf("Normalize(%v) is not canonical", x.a)
		}
	}
}

func TestFormsOfRandomNumbers(t *testing.T) {
	s := newSource(1)
	for range 5000 {
		a := randomFrac(s, 4)
		check(t, "Normalize", Normalize(a), toBig(a))
		if got := IsCanonical(a); got != isForm(a, toBig(a)) {
			t.Fatalf("IsCanonical(%v) is %v", a, got)
		}
	}
}

func TestNew(t *testing.T) {
	numbers := []int64{0, 1, -1, 2, -2, 6, -4, 1 << 32, -1 << 33, math.MaxInt64, -math.MaxInt64, math.MinInt64, math.MinInt64 + 2}
	for _, num := range numbers {
		for _, den := range numbers {
			a, e := New(num, den)
			if den == 0 {
				if e != api.ErrDivide {
					t.Errorf("New(%d, 0) reports %d", num, e)
				}
				checkZeroValue(t, "New", a)
				continue
			}
			if e != api.OK {
				t.Fatalf("New(%d, %d) reports %d", num, den, e)
			}
			check(t, "New", a, big.NewRat(num, den))
		}
	}
}

func TestOrder(t *testing.T) {
	ascending := [][]api.Frac{
		{{Neg: true, Num: api.Nat{0, 1}, Den: api.Nat{1}}, {Neg: true, Num: api.Nat{0, 2, 0}, Den: api.Nat{2, 0}}},
		{frac(-2, 1), frac(-6, 3)},
		{frac(-1, 2), frac(-3, 6)},
		{{Neg: true, Num: api.Nat{1}, Den: api.Nat{0, 1}}},
		{{}, frac(0, 1), frac(0, 7), {Neg: true}, {Neg: true, Den: api.Nat{1}}, {Num: api.Nat{5}}, {Neg: true, Num: api.Nat{5}, Den: api.Nat{0}}},
		{{Num: api.Nat{1}, Den: api.Nat{0, 1}}},
		{frac(1, 3), frac(2, 6)},
		{frac(1, 2), {Num: api.Nat{1, 0, 0}, Den: api.Nat{2, 0}}},
		{frac(2, 3)},
		{frac(3, 1)},
		{{Num: api.Nat{0, 1}, Den: api.Nat{1}}},
	}
	for i, l := range ascending {
		for j, m := range ascending {
			for _, a := range l {
				for _, b := range m {
					checkOrder(t, a, b)
					if got := Cmp(a, b); i < j && got != -1 || i == j && got != 0 || i > j && got != 1 {
						t.Errorf("Cmp(%v, %v) is %d", a, b, got)
					}
				}
			}
		}
	}
}

// checkOrder compares Cmp and Sign with math/big.
func checkOrder(t *testing.T, a, b api.Frac) {
	t.Helper()
	if got, want := Cmp(a, b), toBig(a).Cmp(toBig(b)); got != want {
		t.Errorf("Cmp(%v, %v) is %d", a, b, got)
	}
	if got := Sign(a); got != toBig(a).Sign() {
		t.Errorf("Sign(%v) is %d", a, got)
	}
}

// Large numbers that differ in their last digit only.
func TestOrderOfNeighbours(t *testing.T) {
	long := make(api.Nat, 100)
	for i := range long {
		long[i] = all
	}
	next := slices.Clone(long)
	next[0]--
	for _, neg := range []bool{false, true} {
		a, b := api.Frac{Neg: neg, Num: long, Den: next}, api.Frac{Neg: neg, Num: next, Den: long}
		for _, x := range []api.Frac{a, b, frac(1, 1), frac(-1, 1)} {
			checkOrder(t, a, x)
			checkOrder(t, b, x)
		}
	}
}

// Arguments stay as they are, with their spare capacity, and no result shares memory with them or with another result.
func TestMemory(t *testing.T) {
	for _, a := range memoryArguments() {
		for _, b := range memoryArguments() {
			arguments := []api.Nat{a.Num, a.Den, b.Num, b.Den}
			var before [4]api.Nat
			for i, n := range arguments {
				before[i] = slices.Clone(n[:cap(n)])
			}
			checkMemory(t, memoryResults(a, b))
			for i, n := range arguments {
				if !slices.Equal(n[:cap(n)], before[i]) {
					t.Fatal("an argument was modified", a, b)
				}
			}
		}
	}
}

// memoryArguments returns fractions with spare capacity, new ones in each call.
func memoryArguments() []api.Frac {
	return []api.Frac{
		{Num: api.Nat{3, 7, 7}[:1], Den: api.Nat{4, 7}[:1]},
		{Neg: true, Num: api.Nat{6, 0, 5}[:2], Den: api.Nat{4, 0, 5}[:2]},
		{Num: api.Nat{1, 9}[:1], Den: api.Nat{1, 9}[:1]},
		{Num: api.Nat{0, 9}[:1], Den: api.Nat{1, 9}[:1]},
		{Num: api.Nat{8, 9}[:1], Den: api.Nat{0, 9}[:1]},
		{Neg: true, Num: api.Nat{1, 2, 3, 4, 5, 9}[:5], Den: api.Nat{7, 6, 5, 4, 9}[:4]},
	}
}

// memoryResults returns every fraction that the functions compute from a and b.
func memoryResults(a, b api.Frac) []api.Frac {
	quotient, _ := Div(a, b)
	number, _ := New(3, 4)
	parsed, _ := Parse(Format(a))
	Cmp(a, b)
	Sign(a)
	IsCanonical(a)
	return []api.Frac{
		Normalize(a), Add(a, b), Sub(a, b), Sub(b, a), Mul(a, b), quotient, Neg(a), Complement(a), number, parsed,
		Sum([]api.Frac{a}), Sum([]api.Frac{a, b, a}), Sum(nil), Product([]api.Frac{a}), Product([]api.Frac{a, b, b}), Product(nil),
	}
}

// checkMemory overwrites each result and fails the test if another one changes.
func checkMemory(t *testing.T, results []api.Frac) {
	t.Helper()
	var parts, copies []api.Nat
	for _, r := range results {
		parts = append(parts, r.Num, r.Den)
		copies = append(copies, slices.Clone(r.Num), slices.Clone(r.Den))
	}
	for i, p := range parts {
		p = p[:cap(p)]
		for j := range p {
			p[j] ^= all
		}
		for j := i + 1; j < len(parts); j++ {
			if !slices.Equal(parts[j], copies[j]) {
				t.Fatal("results share memory", i, j)
			}
		}
	}
}
