package relation

import (
	"math/big"
	"math/rand/v2"
	"reflect"
	"slices"
	"testing"

	"credence/api"
	"credence/value"
)

// newSource returns a source that gives the same numbers in every run.
func newSource(seed uint64) *rand.Rand {
	return rand.New(rand.NewPCG(seed, 9))
}

// frac returns num/den as it stands, without reducing it.
func frac(num int32, den uint32) api.Frac {
	return api.Frac{Neg: num < 0, Num: api.Nat{uint32(max(num, -num))}, Den: api.Nat{den}}
}

// ints returns a list of integers.
func ints(l ...int64) []api.Value {
	var out []api.Value
	for _, n := range l {
		out = append(out, value.NewInt(n))
	}
	return out
}

// row returns a tuple of integers.
func row(p api.Frac, l ...int64) api.Tuple {
	return api.Tuple{Values: ints(l...), Prob: p}
}

// schema returns a schema with the columns a, b, .. of these kinds: i and s for integers and strings, I and S if they are keys.
func schema(kinds string) api.Schema {
	out := api.Schema{Name: "R"}
	for i, c := range kinds {
		column := api.Column{Name: string(rune('a' + i)), Type: api.TypeInt, Key: c == 'I' || c == 'S'}
		if c == 's' || c == 'S' {
			column.Type = api.TypeString
		}
		out.Columns = append(out.Columns, column)
	}
	return out
}

// certain returns a schema of a certain relation.
func certain(kinds string) api.Schema {
	out := schema(kinds)
	out.Certain = true
	return out
}

// rel returns a relation.
func rel(s api.Schema, l ...api.Tuple) api.Relation {
	return api.Relation{Schema: s, Tuples: l}
}

// power returns 2^n plus the given number as a Nat with some leading zero digits.
func power(n int, plus uint32) api.Nat {
	out := make(api.Nat, n/32+3)
	out[n/32] = 1 << (n % 32)
	out[0] += plus
	return out
}

// bigNat converts a natural number.
func bigNat(a api.Nat) *big.Int {
	out := new(big.Int)
	for _, d := range slices.Backward(a) {
		out.Lsh(out, 32).Or(out, big.NewInt(int64(d)))
	}
	return out
}

// toBig returns the value of a.
func toBig(a api.Frac) *big.Rat {
	num, den := bigNat(a.Num), bigNat(a.Den)
	if den.Sign() == 0 {
		return new(big.Rat)
	}
	if a.Neg {
		num.Neg(num)
	}
	return new(big.Rat).SetFrac(num, den)
}

// isForm reports whether a is the canonical form of want.
func isForm(a api.Frac, want *big.Rat) bool {
	trimmed := func(n api.Nat) bool { return len(n) == 0 || n[len(n)-1] != 0 }
	num := bigNat(a.Num)
	if a.Neg {
		num.Neg(num)
	}
	return trimmed(a.Num) && trimmed(a.Den) && a.Neg == (want.Sign() < 0) && num.Cmp(want.Num()) == 0 && bigNat(a.Den).Cmp(want.Denom()) == 0
}

// checkErrno fails the test if got is not want.
func checkErrno(t *testing.T, what string, got, want api.Errno) {
	t.Helper()
	if got != want {
		t.Fatalf("%s: got error %d, want %d", what, got, want)
	}
}

// checkRelation fails the test if r does not consist of these tuples, with canonical probabilities, or is not valid.
func checkRelation(t *testing.T, what string, r api.Relation, s api.Schema, want []api.Tuple) {
	t.Helper()
	if r.Schema.Name != s.Name || r.Schema.Certain != s.Certain || !slices.Equal(r.Schema.Columns, s.Columns) {
		t.Fatalf("%s: got the schema %v, want %v", what, r.Schema, s)
	}
	if len(r.Tuples) != len(want) {
		t.Fatalf("%s: got %d tuples, want %d", what, len(r.Tuples), len(want))
	}
	for i, x := range r.Tuples {
		if !slices.Equal(x.Values, want[i].Values) || !isForm(x.Prob, toBig(want[i].Prob)) {
			t.Fatalf("%s: tuple %d is %v, want %v", what, i, x, want[i])
		}
	}
	checkErrno(t, what+": the result", Validate(r), api.OK)
}

// checkNoRelation fails the test if r, returned together with an error, is not the zero value.
func checkNoRelation(t *testing.T, what string, r api.Relation) {
	t.Helper()
	if r.Schema.Name != "" || r.Schema.Certain || len(r.Schema.Columns) > 0 || len(r.Tuples) > 0 {
		t.Fatalf("%s: got %v, want the zero value", what, r)
	}
}

// spare returns a copy of l with spare capacity that is not zero.
func spare[T any](l []T, filler T) []T {
	out := make([]T, len(l), len(l)+3)
	copy(out, l)
	for i := range 3 {
		out[:len(l)+3][len(l)+i] = filler
	}
	return out
}

// whole returns l with its spare capacity.
func whole[T any](l []T) []T {
	return l[:cap(l)]
}

// spareFrac returns a copy of a whose slices have spare capacity.
func spareFrac(a api.Frac) api.Frac {
	return api.Frac{Neg: a.Neg, Num: spare(a.Num, 77), Den: spare(a.Den, 78)}
}

// spareTuple returns a copy of a tuple whose slices have spare capacity.
func spareTuple(t api.Tuple) api.Tuple {
	return api.Tuple{Values: spare(t.Values, value.NewInt(79)), Prob: spareFrac(t.Prob)}
}

// spareRelation returns a copy of r whose slices have spare capacity.
func spareRelation(r api.Relation) api.Relation {
	out := api.Relation{Schema: r.Schema}
	out.Schema.Columns = spare(r.Schema.Columns, api.Column{Name: "spare", Type: 80})
	for _, t := range r.Tuples {
		out.Tuples = append(out.Tuples, spareTuple(t))
	}
	out.Tuples = spare(out.Tuples, row(frac(81, 82), 83))
	return out
}

// wholeTuple returns all memory of a tuple.
func wholeTuple(t api.Tuple) api.Tuple {
	return api.Tuple{Values: whole(t.Values), Prob: api.Frac{Neg: t.Prob.Neg, Num: whole(t.Prob.Num), Den: whole(t.Prob.Den)}}
}

// wholeRelation returns all memory of r.
func wholeRelation(r api.Relation) api.Relation {
	out := api.Relation{Schema: r.Schema}
	out.Schema.Columns = whole(r.Schema.Columns)
	for _, t := range whole(r.Tuples) {
		out.Tuples = append(out.Tuples, wholeTuple(t))
	}
	return out
}

// overwrite changes all memory of r, with its spare capacity, and fails the test if two slices of r share some of it.
func overwrite(t *testing.T, what string, r api.Relation) {
	t.Helper()
	for i := range whole(r.Schema.Columns) {
		whole(r.Schema.Columns)[i] = api.Column{Name: "overwritten"}
	}
	var nats []api.Nat
	var values [][]api.Value
	for _, x := range whole(r.Tuples) {
		values = append(values, whole(x.Values))
		nats = append(nats, whole(x.Prob.Num), whole(x.Prob.Den))
	}
	clear(whole(r.Tuples))
	for i, l := range values {
		for k := range l {
			if l[k].Type == -1 {
				t.Fatalf("%s: values share memory", what)
			}
			l[k] = api.Value{Type: -1, Int: int64(i)}
		}
	}
	for i, l := range nats {
		for k := range l {
			l[k] = uint32(1000 + i)
		}
	}
	for i, l := range nats {
		if slices.ContainsFunc(l, func(d uint32) bool { return d != uint32(1000+i) }) {
			t.Fatalf("%s: numbers share memory", what)
		}
	}
}

// checkMemory fails the test if all memory of an argument is not equal to that of a copy made before.
func checkMemory(t *testing.T, got, want any) {
	t.Helper()
	if !reflect.DeepEqual(got, want) {
		t.Fatalf("an argument was changed from %v to %v", want, got)
	}
}
