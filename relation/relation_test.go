package relation

import (
	"slices"
	"testing"

	"credence/api"
	"credence/value"
)

// rows returns n tuples of one probability in one block of a schema with the key column a.
func rows(n int, p api.Frac) []api.Tuple {
	var out []api.Tuple
	for i := range n {
		out = append(out, row(p, 5, int64(i)))
	}
	return out
}

func TestValidate(t *testing.T) {
	half, third, quarter := frac(1, 2), frac(1, 3), frac(2, 8)
	for i, x := range []struct {
		r    api.Relation
		want api.Errno
	}{
		{rel(schema("Ii")), api.OK},
		{rel(schema("Ii"), []api.Tuple{}...), api.OK},
		{rel(certain("ii")), api.OK},
		{rel(schema("Ii"), row(half, 1, 1)), api.OK},
		{rel(schema("Ii"), row(half, 1, 1), row(quarter, 1, 2), row(quarter, 1, 3), row(half, 2, 0)), api.OK},
		{rel(schema("iI"), row(half, 1, 1), row(half, 1, 2), row(half, 1, 3), row(half, 2, 1)), api.OK},
		{rel(schema("ii"), row(frac(1, 1), 1, 1), row(frac(1, 1), 1, 2)), api.OK},
		{rel(schema("II"), row(frac(1, 1), 1, 1), row(frac(1, 1), 1, 2)), api.OK},
		{rel(certain("ii"), row(frac(1, 1), 1, 1), row(frac(3, 3), 1, 2)), api.OK},
		{rel(api.Schema{}), api.ErrInvalid},
		{rel(schema("Ii"), row(half, 1, 1), row(half, 1)), api.ErrType},
		{rel(schema("Ii"), row(half, 1, 1), row(frac(3, 2), 1, 2)), api.ErrProbability},
		{rel(certain("ii"), row(frac(1, 1), 1, 1), row(half, 1, 2)), api.ErrProbability},
		{rel(schema("Ii"), row(half, 1, 1), row(half, 1, 1)), api.ErrDuplicate},
		{rel(certain("ii"), row(frac(1, 1), 1, 1), row(frac(1, 1), 1, 1)), api.ErrDuplicate},
		{rel(schema("Ii"), row(half, 1, 2), row(half, 1, 1)), api.ErrInvalid},
		{rel(schema("Ii"), row(half, 2, 1), row(half, 1, 2)), api.ErrInvalid},
		{rel(schema("ii"), row(half, 1, 1), row(half, 1, 3), row(half, 1, 2)), api.ErrInvalid},
		{rel(schema("ii"), row(half, 1, 1), row(half, 1, 2), row(half, 1, 1)), api.ErrInvalid},
		{rel(schema("Ii"), row(half, 1, 1), row(half, 1, 2), row(third, 1, 3)), api.ErrProbability},
		{rel(schema("iI"), row(half, 1, 1), row(third, 2, 1), row(quarter, 3, 1)), api.ErrProbability},
	} {
		if got := Validate(x.r); got != x.want {
			t.Errorf("relation %d: got error %d, want %d", i, got, x.want)
		}
	}
}

// The order of the types and of negative numbers is that of the values.
func TestValidateOrder(t *testing.T) {
	words := rel(schema("s"))
	for _, s := range []string{"", " ", "A", "AA", "B", "a", "~"} {
		words.Tuples = append(words.Tuples, api.Tuple{Values: []api.Value{value.NewString(s)}})
	}
	numbers := rel(schema("i"), row(api.Frac{}, -1<<63), row(api.Frac{}, -1), row(api.Frac{}, 0), row(api.Frac{}, 1<<63-1))
	for _, r := range []api.Relation{words, numbers} {
		checkErrno(t, "in order", Validate(r), api.OK)
		for i := range len(r.Tuples) - 1 {
			swapped := rel(r.Schema, slices.Clone(r.Tuples)...)
			swapped.Tuples[i], swapped.Tuples[i+1] = swapped.Tuples[i+1], swapped.Tuples[i]
			checkErrno(t, "not in order", Validate(swapped), api.ErrInvalid)
		}
	}
}

func TestValidateLimits(t *testing.T) {
	tiny := frac(1, 1000)
	for n := range 3 * api.MaxTuples {
		want, wantBlock := api.OK, api.OK
		if n > api.MaxTuples {
			want = api.ErrTooLarge
		}
		if n > api.MaxAlts {
			wantBlock = api.ErrTooLarge
		}
		checkErrno(t, "no keys", Validate(rel(schema("ii"), rows(n, tiny)...)), want)
		checkErrno(t, "other keys", Validate(rel(schema("iI"), rows(n, tiny)...)), want)
		checkErrno(t, "all keys", Validate(rel(schema("II"), rows(n, tiny)...)), want)
		checkErrno(t, "certain", Validate(rel(certain("ii"), rows(n, frac(1, 1))...)), want)
		checkErrno(t, "one block", Validate(rel(schema("Ii"), rows(n, tiny)...)), wantBlock)
	}
	checkErrno(t, "many tuples", Validate(rel(schema("Ii"), make([]api.Tuple, 1<<20)...)), api.ErrTooLarge)
}

// A block may sum to exactly 1. A slight excess is an error, at whichever tuple it is.
func TestValidateSums(t *testing.T) {
	for n := 1; n <= api.MaxAlts; n++ {
		r := rel(schema("Ii"), rows(n, frac(3, uint32(3*n)))...)
		checkErrno(t, "a sum of 1", Validate(r), api.OK)
		for i := range n {
			r.Tuples[i].Prob = frac(1, uint32(n+1))
			checkErrno(t, "less than 1", Validate(r), api.OK)
			r.Tuples[i].Prob = frac(1001, uint32(1000*n))
			checkErrno(t, "more than 1", Validate(r), api.ErrProbability)
			r.Tuples[i].Prob = frac(3, uint32(3*n))
		}
	}
}

// Sums are exact for the longest denominators.
func TestValidateLongSums(t *testing.T) {
	const n = api.MaxNatBits - 1
	for i, x := range []struct {
		a, b api.Frac
		want api.Errno
	}{
		{api.Frac{Num: power(n-1, 0), Den: power(n, 0)}, frac(1, 2), api.OK},
		{api.Frac{Num: power(n-1, 1), Den: power(n, 0)}, frac(1, 2), api.ErrProbability},
		{api.Frac{Num: power(n, 0), Den: power(n, 1)}, api.Frac{Num: api.Nat{1}, Den: power(n, 2)}, api.OK},
		{api.Frac{Num: power(n, 0), Den: power(n, 1)}, api.Frac{Num: api.Nat{1}, Den: power(n, 1)}, api.OK},
		{api.Frac{Num: power(n, 0), Den: power(n, 1)}, api.Frac{Num: api.Nat{1}, Den: power(n, 0)}, api.ErrProbability},
		{api.Frac{Num: power(n, 1), Den: power(n, 1)}, api.Frac{Num: api.Nat{1}, Den: power(n, 0)}, api.ErrProbability},
		{api.Frac{Num: power(n, 1), Den: power(n, 1)}, api.Frac{Num: power(n, 0)}, api.OK},
	} {
		if got := Validate(rel(schema("Ii"), row(x.a, 1, 1), row(x.b, 1, 2))); got != x.want {
			t.Errorf("sum %d: got error %d, want %d", i, got, x.want)
		}
	}
	full := rel(schema("Ii"))
	for i := range uint32(api.MaxAlts) {
		full.Tuples = append(full.Tuples, row(api.Frac{Num: power(n-4, i), Den: power(n, 16*i)}, 1, int64(i)))
	}
	checkErrno(t, "long numbers with the sum 1", Validate(full), api.OK)
	full.Tuples[3].Prob.Num[0]++
	checkErrno(t, "long numbers with a sum above 1", Validate(full), api.ErrProbability)
}

// Of several faults, the first one counts: the schema, the number of tuples, one tuple after another, the lengths of all blocks, their sums.
func TestValidateErrorOrder(t *testing.T) {
	half, tiny := frac(1, 2), frac(1, 1000)
	long := rows(api.MaxAlts+1, tiny)
	many := rows(api.MaxTuples+1, tiny)
	join := func(l ...[]api.Tuple) []api.Tuple { return slices.Concat(l...) }
	over := []api.Tuple{row(half, 0, 1), row(half, 0, 2), row(half, 0, 3)}
	for i, x := range []struct {
		r    api.Relation
		want api.Errno
	}{
		{rel(schema(""), join(many, rows(1, half))...), api.ErrInvalid},
		{rel(schema("Ii"), join([]api.Tuple{row(half)}, many)...), api.ErrTooLarge},
		{rel(schema("Ii"), join([]api.Tuple{row(half, 1, 1), row(half, 1, 1)}, many)...), api.ErrTooLarge},
		{rel(schema("Ii"), row(half, 1, 1), row(frac(2, 1), 1, 1)), api.ErrProbability},
		{rel(schema("Ii"), row(half, 1, 1), row(frac(2, 1), 0, 1)), api.ErrProbability},
		{rel(schema("Ii"), row(half, 1, 1), row(half, 1), row(half, 1)), api.ErrType},
		{rel(schema("Ii"), row(half, 1, 1), row(half, 1, 1), row(half, 1), row(frac(2, 1), 1, 2)), api.ErrDuplicate},
		{rel(schema("Ii"), row(half, 1, 1), row(half, 1, 1), row(half, 0, 1)), api.ErrDuplicate},
		{rel(schema("Ii"), row(half, 1, 1), row(half, 0, 1), row(half, 0, 1)), api.ErrInvalid},
		{rel(schema("Ii"), row(half, 1, 1), row(half, 0, 1), row(half, 1)), api.ErrInvalid},
		{rel(schema("Ii"), row(frac(2, 1), 1, 1), row(half, 1)), api.ErrProbability},
		{rel(schema("Ii"), row(half, 1), row(frac(2, 1), 1, 1)), api.ErrType},
		{rel(schema("Ii"), join(long, []api.Tuple{row(half, 9)})...), api.ErrType},
		{rel(schema("Ii"), join(long, []api.Tuple{row(half, 4, 4)})...), api.ErrInvalid},
		{rel(schema("Ii"), join(over, []api.Tuple{row(half, 4, 4), row(half, 4, 4)})...), api.ErrDuplicate},
		{rel(schema("Ii"), join(over, []api.Tuple{row(half, 4, 4), row(half, 4)})...), api.ErrType},
		{rel(schema("Ii"), over...), api.ErrProbability},
		{rel(schema("Ii"), join(over, long)...), api.ErrTooLarge},
		{rel(schema("Ii"), join(long, []api.Tuple{row(half, 6, 1), row(half, 6, 2), row(half, 6, 3)})...), api.ErrTooLarge},
		{rel(schema("Ii"), rows(api.MaxAlts+1, half)...), api.ErrTooLarge},
	} {
		if got := Validate(x.r); got != x.want {
			t.Errorf("relation %d: got error %d, want %d", i, got, x.want)
		}
	}
}

// checkFind fails the test if Find does not return i, or 0 and false if i is negative.
func checkFind(t *testing.T, r api.Relation, values []api.Value, i int) {
	t.Helper()
	if got, found := Find(r, values); got != max(i, 0) || found != (i >= 0) {
		t.Fatalf("Find of %v in %v: got %d and %v, want %d", values, r, got, found, i)
	}
}

func TestFind(t *testing.T) {
	r := rel(schema("ii"), row(frac(1, 2), 1, 2), row(frac(1, 2), 1, 4), row(frac(1, 2), 3, 0))
	for i, x := range r.Tuples {
		checkFind(t, r, x.Values, i)
	}
	for _, values := range [][]api.Value{nil, {}, ints(1), ints(1, 3), ints(1, 2, 0), ints(0, 0), ints(9, 9), {value.NewInt(1), value.NewString("2")}} {
		checkFind(t, r, values, -1)
		checkFind(t, rel(schema("ii")), values, -1)
	}
}

// In an invalid relation, Find returns the first tuple with these values.
func TestFindInInvalidRelation(t *testing.T) {
	bad := api.Value{Type: 7, Int: 3, Str: "\n"}
	r := rel(api.Schema{}, row(frac(5, 2), 9), row(api.Frac{}, 3, 4), row(api.Frac{}), row(api.Frac{}, 9), row(api.Frac{}), api.Tuple{Values: []api.Value{bad, {}}}, row(api.Frac{}, 1))
	checkFind(t, r, ints(9), 0)
	checkFind(t, r, ints(3, 4), 1)
	checkFind(t, r, nil, 2)
	checkFind(t, r, []api.Value{}, 2)
	checkFind(t, r, []api.Value{bad, {}}, 5)
	checkFind(t, r, []api.Value{bad}, -1)
	checkFind(t, r, []api.Value{{Type: 7, Int: 3}, {}}, -1)
	checkFind(t, r, ints(1), 6)
	checkFind(t, r, ints(3), -1)
	for range 2000 {
		r.Tuples = append([]api.Tuple{row(api.Frac{}, 77)}, r.Tuples...)
	}
	checkFind(t, r, ints(1), 2006)
}
