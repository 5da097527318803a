package relation

import (
	"slices"

	"credence/api"
	"credence/bignat"
	"credence/rational"
	"credence/value"
)

// Key returns the values at the key columns of s. There are none if values does not have one element per column.
func Key(s api.Schema, values []api.Value) []api.Value {
	if len(values) != len(s.Columns) {
		return nil
	}
	var out []api.Value
	for i, c := range s.Columns {
		if c.Key {
			out = append(out, values[i])
		}
	}
	return out
}

// blockKey returns the values that a tuple shares with exactly the tuples of its block: all its values if s has no key columns. The result may share the memory of values.
func blockKey(s api.Schema, values []api.Value) []api.Value {
	if hasKey(s) {
		return Key(s, values)
	}
	return values
}

// Blocks lists the tuple indexes of every block. There are no blocks if r is invalid or certain.
func Blocks(r api.Relation) [][]int {
	if Validate(r) != api.OK {
		return nil
	}
	return group(r)
}

// group is Blocks for a relation with valid tuples in ascending order, whatever its blocks are.
func group(r api.Relation) [][]int {
	if r.Schema.Certain {
		return nil
	}
	keys := make([][]api.Value, len(r.Tuples))
	sorted := make([]int, len(r.Tuples))
	for i, t := range r.Tuples {
		keys[i], sorted[i] = blockKey(r.Schema, t.Values), i
	}
	compare := func(a, b int) int { return value.CompareTuples(keys[a], keys[b]) }
	// A stable sort leaves the indexes of a block in ascending order.
	slices.SortStableFunc(sorted, compare)
	var out [][]int
	for i, tuple := range sorted {
		if i == 0 || compare(sorted[i-1], tuple) != 0 {
			out = append(out, nil)
		}
		last := len(out) - 1
		out[last] = append(out[last], tuple)
	}
	return out
}

// Remainder returns the probability that block number block chooses none of its tuples, or false if there is no such block.
func Remainder(r api.Relation, block int) (api.Frac, bool) {
	blocks := Blocks(r)
	if block < 0 || block >= len(blocks) {
		return api.Frac{}, false
	}
	num, den := total(probs(r, blocks[block]))
	rest, _ := bignat.Sub(den, num)
	return rational.Normalize(api.Frac{Num: rest, Den: den}), true
}

// probs lists the probabilities of the tuples with these indexes. They share the memory of r.
func probs(r api.Relation, tuples []int) []api.Frac {
	out := make([]api.Frac, len(tuples))
	for i, tuple := range tuples {
		out[i] = r.Tuples[tuple].Prob
	}
	return out
}

// exceedsOne reports whether the sum of some probabilities is above 1.
func exceedsOne(l []api.Frac) bool {
	num, den := total(l)
	return bignat.Cmp(num, den) > 0
}

// total returns the numerator and the denominator of the sum of some probabilities, not reduced: for long numbers, reducing takes most of the time of rational.Sum, and a comparison with 1 does not need it. The result may share the memory of l.
func total(l []api.Frac) (num, den api.Nat) {
	switch {
	case len(l) == 0, len(l) == 1 && bignat.BitLen(l[0].Den) == 0:
		return nil, api.Nat{1}
	case len(l) == 1:
		return l[0].Num, l[0].Den
	}
	half := len(l) / 2
	num1, den1 := total(l[:half])
	num2, den2 := total(l[half:])
	num = bignat.Add(bignat.Mul(num1, den2), bignat.Mul(num2, den1))
	return num, bignat.Mul(den1, den2)
}
