package relation

import (
	"math"
	"math/big"
	"slices"
	"testing"

	"credence/api"
	"credence/value"
)

func TestKey(t *testing.T) {
	for _, x := range []struct {
		kinds  string
		values []api.Value
		want   []api.Value
	}{
		{"Ii", ints(1, 2), ints(1)},
		{"iI", ints(1, 2), ints(2)},
		{"II", ints(1, 2), ints(1, 2)},
		{"II", ints(2, 1), ints(2, 1)},
		{"IiI", ints(7, 8, 7), ints(7, 7)},
		{"iIiIiI", ints(1, 2, 3, 4, 5, 6), ints(2, 4, 6)},
		{"I", ints(-1), ints(-1)},
		{"ii", ints(1, 2), nil},
		{"i", ints(1), nil},
		{"II", ints(1), nil},
		{"II", ints(1, 2, 3), nil},
		{"Ii", ints(1), nil},
		{"I", nil, nil},
		{"", nil, nil},
		{"", ints(1), nil},
		// Neither the types of the values nor the schema are checked.
		{"SI", []api.Value{value.NewInt(3), value.NewString("x")}, []api.Value{value.NewInt(3), value.NewString("x")}},
		{"SI", []api.Value{{Type: 9}, {Type: 1, Str: "\n"}}, []api.Value{{Type: 9}, {Type: 1, Str: "\n"}}},
		{"IIIIIIII", ints(1, 2, 3, 4, 5, 6, 7, 8), ints(1, 2, 3, 4, 5, 6, 7, 8)},
	} {
		if got := Key(schema(x.kinds), x.values); !slices.Equal(got, x.want) {
			t.Errorf("Key of %v in %s: got %v, want %v", x.values, x.kinds, got, x.want)
		}
	}
}

func TestKeyMemory(t *testing.T) {
	s := schema("II")
	values := spare(ints(1, 2), value.NewInt(3))
	first, second := Key(s, values), Key(s, values)
	for i := range whole(first) {
		whole(first)[i] = value.NewInt(99)
	}
	checkMemory(t, whole(values), ints(1, 2, 3, 3, 3))
	checkMemory(t, second, ints(1, 2))
	clear(whole(values))
	checkMemory(t, second, ints(1, 2))
}

// checkAllBlocks fails the test if Blocks(r) is not want, or Remainder does not fit it.
func checkAllBlocks(t *testing.T, r api.Relation, want [][]int) {
	t.Helper()
	got := Blocks(r)
	if !slices.EqualFunc(got, want, slices.Equal[[]int]) {
		t.Fatalf("Blocks of %v: got %v, want %v", r, got, want)
	}
	for i, block := range want {
		rest, ok := Remainder(r, i)
		if wantRest := new(big.Rat).Sub(one, wantSum(r, block)); !ok || !isForm(rest, wantRest) {
			t.Fatalf("Remainder of block %d of %v: got %v and %v, want %v", i, r, rest, ok, wantRest)
		}
	}
	for _, i := range []int{-1, -2, len(want), len(want) + 1, math.MinInt, math.MaxInt, 1 << 32} {
		if rest, ok := Remainder(r, i); ok || rest.Neg || len(rest.Num)+len(rest.Den) > 0 {
			t.Fatalf("Remainder of block %d of %v: got %v and %v", i, r, rest, ok)
		}
	}
}

func TestBlocks(t *testing.T) {
	p := frac(2, 12)
	l := []api.Tuple{row(p, -1, 5, 0), row(p, 0, 3, 1), row(frac(4, 12), 0, 5, 0), row(p, 1, 4, 1), row(p, 2, 3, 0), row(api.Frac{}, 3, 3, 1), row(p, 4, 5, 0)}
	for _, x := range []struct {
		kinds string
		want  [][]int
	}{
		{"iii", [][]int{{0}, {1}, {2}, {3}, {4}, {5}, {6}}},
		{"III", [][]int{{0}, {1}, {2}, {3}, {4}, {5}, {6}}},
		{"Iii", [][]int{{0}, {1, 2}, {3}, {4}, {5}, {6}}},
		{"iIi", [][]int{{1, 4, 5}, {3}, {0, 2, 6}}},
		{"iiI", [][]int{{0, 2, 4, 6}, {1, 3, 5}}},
		{"iII", [][]int{{4}, {1, 5}, {3}, {0, 2, 6}}},
		{"IiI", [][]int{{0}, {2}, {1}, {3}, {4}, {5}, {6}}},
	} {
		checkAllBlocks(t, rel(schema(x.kinds), l...), x.want)
	}
}

// Keys are compared as values are: by type, negative integers first, strings bytewise, a prefix first.
func TestBlockOrder(t *testing.T) {
	r := rel(schema("iS"))
	for i, s := range []string{"b", "aa", "", "B", "a", "b", "~", " ", ""} {
		r.Tuples = append(r.Tuples, api.Tuple{Values: []api.Value{value.NewInt(int64(i)), value.NewString(s)}, Prob: frac(1, 3)})
	}
	checkAllBlocks(t, r, [][]int{{2, 8}, {7}, {3}, {4}, {1}, {0, 5}, {6}})
	r = rel(schema("iI"))
	for i, n := range []int64{300, -1, 0, math.MaxInt64, -300, math.MinInt64, -1, 7} {
		r.Tuples = append(r.Tuples, row(frac(1, 2), int64(i), n))
	}
	checkAllBlocks(t, r, [][]int{{5}, {4}, {1, 6}, {2}, {7}, {0}, {3}})
}

// The two tuples of the document's example 4.
func TestRemainder(t *testing.T) {
	third := frac(1, 3)
	r := rel(schema("Ii"), row(third, 1, 1), row(third, 1, 2), row(frac(6, 6), 2, 0), row(api.Frac{}, 3, 0))
	checkAllBlocks(t, r, [][]int{{0, 1}, {2}, {3}})
	for i, want := range []api.Frac{{Num: api.Nat{1}, Den: api.Nat{3}}, {Den: api.Nat{1}}, {Num: api.Nat{1}, Den: api.Nat{1}}} {
		if got, ok := Remainder(r, i); !ok || got.Neg || !slices.Equal(got.Num, want.Num) || !slices.Equal(got.Den, want.Den) {
			t.Errorf("Remainder of block %d: got %v and %v", i, got, ok)
		}
	}
}

func TestRemainderOfLongNumbers(t *testing.T) {
	const n = api.MaxNatBits - 1
	r := rel(schema("Ii"), row(api.Frac{Num: power(n-3, 0), Den: power(n, 1)}, 1, 1), row(api.Frac{Num: power(n-1, 0), Den: power(n, 6)}, 1, 2), row(api.Frac{Num: power(n-9, 1), Den: power(n, 0)}, 1, 3))
	checkAllBlocks(t, r, [][]int{{0, 1, 2}})
}

// Invalid and certain relations have no blocks.
func TestNoBlocks(t *testing.T) {
	half := frac(1, 2)
	for _, r := range []api.Relation{
		rel(schema("Ii")), rel(schema("ii")), rel(certain("ii")), rel(api.Schema{}),
		rel(certain("ii"), row(frac(1, 1), 1, 1), row(frac(1, 1), 1, 2)),
		rel(schema("Ii"), row(half, 1, 1), row(half, 1, 2), row(half, 1, 3)),
		rel(schema("Ii"), row(half, 1, 1), row(half, 1, 1)),
		rel(schema("Ii"), row(half, 2, 1), row(half, 1, 1)),
		rel(schema("Ii"), row(half, 1, 1), row(half, 2)),
		rel(schema("Ii"), row(half, 1, 1), row(frac(3, 2), 2, 1)),
		rel(schema("Ii"), rows(api.MaxAlts+1, frac(1, 99))...),
		rel(schema("ii"), rows(api.MaxTuples+1, half)...),
		rel(schema(""), row(half)),
	} {
		checkAllBlocks(t, r, nil)
	}
}

// The blocks share no memory with one another.
func TestBlockMemory(t *testing.T) {
	r := rel(schema("iI"), row(frac(1, 4), 1, 2), row(frac(1, 4), 2, 1), row(frac(1, 4), 3, 2), row(frac(1, 4), 4, 2), row(frac(1, 4), 5, 1), row(frac(1, 4), 6, 3))
	blocks := Blocks(r)
	for i, block := range blocks {
		for k := range whole(block) {
			whole(block)[k] = 100 + i
		}
	}
	for i, block := range blocks {
		if slices.ContainsFunc(block, func(n int) bool { return n != 100+i }) {
			t.Fatal("blocks share memory", blocks)
		}
	}
	clear(blocks)
	checkAllBlocks(t, r, [][]int{{1, 4}, {0, 2, 3}, {5}})
}
