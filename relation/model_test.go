package relation

import (
	"fmt"
	"math/big"
	"math/rand/v2"
	"slices"

	"credence/api"
	"credence/value"
)

// one is the number 1. It is never changed.
var one = big.NewRat(1, 1)

// wantProb is the part of P9.2 about a probability, for short denominators.
func wantProb(s api.Schema, p api.Frac) bool {
	x := toBig(p)
	return x.Sign() >= 0 && x.Cmp(one) <= 0 && (!s.Certain || x.Cmp(one) == 0)
}

// wantTuple is the result of CheckTuple by P9.2, for a valid schema.
func wantTuple(s api.Schema, t api.Tuple) api.Errno {
	if len(t.Values) != len(s.Columns) {
		return api.ErrType
	}
	for i, v := range t.Values {
		if !value.Valid(v) || v.Type != s.Columns[i].Type {
			return api.ErrType
		}
	}
	if !wantProb(s, t.Prob) {
		return api.ErrProbability
	}
	return api.OK
}

// wantBlocks lists the blocks of an uncertain relation by P9.3 and P9.6.
func wantBlocks(r api.Relation) [][]int {
	var keys []int
	for i, c := range r.Schema.Columns {
		if c.Key {
			keys = append(keys, i)
		}
	}
	blocks := map[string][]int{}
	var order []string
	for i, t := range r.Tuples {
		// The bytes of a key are ordered as the values are.
		key := fmt.Sprintf("%08d", i)
		if len(keys) > 0 {
			var l []api.Value
			for _, k := range keys {
				l = append(l, t.Values[k])
			}
			key = string(value.EncodeKey(l))
		}
		if len(blocks[key]) == 0 {
			order = append(order, key)
		}
		blocks[key] = append(blocks[key], i)
	}
	slices.Sort(order)
	var out [][]int
	for _, key := range order {
		out = append(out, blocks[key])
	}
	return out
}

// wantSum is the sum of the probabilities of some tuples.
func wantSum(r api.Relation, block []int) *big.Rat {
	out := new(big.Rat)
	for _, i := range block {
		out.Add(out, toBig(r.Tuples[i].Prob))
	}
	return out
}

// wantValidate is the result of Validate by P9.4, for a valid schema.
func wantValidate(r api.Relation) api.Errno {
	if len(r.Tuples) > api.MaxTuples {
		return api.ErrTooLarge
	}
	for i, t := range r.Tuples {
		if e := wantTuple(r.Schema, t); e != api.OK {
			return e
		}
		if i > 0 {
			switch value.CompareTuples(r.Tuples[i-1].Values, t.Values) {
			case 0:
				return api.ErrDuplicate
			case 1:
				return api.ErrInvalid
			}
		}
	}
	if r.Schema.Certain {
		return api.OK
	}
	for _, block := range wantBlocks(r) {
		if len(block) > api.MaxAlts {
			return api.ErrTooLarge
		}
	}
	for _, block := range wantBlocks(r) {
		if wantSum(r, block).Cmp(one) > 0 {
			return api.ErrProbability
		}
	}
	return api.OK
}

// indexOf returns the index of the first tuple with these values, or -1.
func indexOf(r api.Relation, values []api.Value) int {
	return slices.IndexFunc(r.Tuples, func(t api.Tuple) bool { return slices.Equal(t.Values, values) })
}

// replaced returns r with other tuples, sorted.
func replaced(r api.Relation, l []api.Tuple) api.Relation {
	out := rel(r.Schema, l...)
	slices.SortFunc(out.Tuples, func(a, b api.Tuple) int { return value.CompareTuples(a.Values, b.Values) })
	return out
}

// wantInsert is the result of Insert by P9.5, for a valid schema.
func wantInsert(r api.Relation, t api.Tuple) (api.Relation, api.Errno) {
	if e := wantValidate(r); e != api.OK {
		return api.Relation{}, e
	}
	if e := wantTuple(r.Schema, t); e != api.OK {
		return api.Relation{}, e
	}
	if indexOf(r, t.Values) >= 0 {
		return api.Relation{}, api.ErrDuplicate
	}
	// The errors that are left are those of the result, in the same order.
	out := replaced(r, append(slices.Clone(r.Tuples), t))
	return out, wantValidate(out)
}

// wantDelete is the result of Delete by P9.5, for a valid schema.
func wantDelete(r api.Relation, values []api.Value) (api.Relation, api.Errno) {
	if e := wantValidate(r); e != api.OK {
		return api.Relation{}, e
	}
	i := indexOf(r, values)
	if i < 0 {
		return api.Relation{}, api.ErrNotFound
	}
	return replaced(r, slices.Delete(slices.Clone(r.Tuples), i, i+1)), api.OK
}

// wantSetProb is the result of SetProb by P9.5, for a valid schema.
func wantSetProb(r api.Relation, values []api.Value, p api.Frac) (api.Relation, api.Errno) {
	if e := wantValidate(r); e != api.OK {
		return api.Relation{}, e
	}
	i := indexOf(r, values)
	if i < 0 {
		return api.Relation{}, api.ErrNotFound
	}
	out := replaced(r, slices.Clone(r.Tuples))
	out.Tuples[i].Prob = p
	return out, wantValidate(out)
}

// randomProb returns a probability of at most 1 over limit, often not reduced, and sometimes one that is out of range.
func randomProb(s *rand.Rand, certain bool, limit int32) api.Frac {
	switch {
	case s.IntN(150) == 0:
		return []api.Frac{frac(-1, 5), frac(7, 6), frac(2, 1)}[s.IntN(3)]
	case certain:
		n := 1 + s.Uint32N(5)
		return frac(int32(n), n)
	case s.IntN(12) == 0:
		return []api.Frac{{}, {Neg: true, Num: api.Nat{3}}, frac(0, 4), {Num: api.Nat{2, 0}, Den: api.Nat{2 * uint32(limit), 0, 0}}}[s.IntN(4)]
	}
	den := 1 + s.Int32N(9)
	return frac(s.Int32N(den+1), uint32(den*limit))
}

// randomValues returns values for the columns, from few of each type.
func randomValues(s *rand.Rand, columns []api.Column, spread int64) []api.Value {
	var out []api.Value
	for _, c := range columns {
		n := s.Int64N(spread)
		if c.Type == api.TypeInt {
			out = append(out, value.NewInt(n-1))
		} else {
			out = append(out, value.NewString([]string{"", "'", "a", "aa", "b"}[n%5]))
		}
	}
	return out
}

// randomSchema returns a valid schema with up to three columns.
func randomSchema(s *rand.Rand) api.Schema {
	out := schema([]string{"i", "s", "is", "ii", "iis"}[s.IntN(5)])
	out.Certain = s.IntN(5) == 0
	for i := range out.Columns {
		out.Columns[i].Key = !out.Certain && s.IntN(2) == 0
	}
	return out
}

// randomRelation returns a relation that is valid if the probabilities of its blocks are, or has one fault.
func randomRelation(s *rand.Rand) api.Relation {
	out := rel(randomSchema(s))
	limit, spread := 1+s.Int32N(6), 2+s.Int64N(6)
	for range s.IntN([]int{2, 9, 40, 200}[s.IntN(4)]) {
		t := api.Tuple{Values: randomValues(s, out.Schema.Columns, spread), Prob: randomProb(s, out.Schema.Certain, limit)}
		if indexOf(out, t.Values) < 0 {
			out.Tuples = append(out.Tuples, t)
		}
	}
	out = replaced(out, out.Tuples)
	if len(out.Tuples) > 1 && s.IntN(10) == 0 {
		i, k := s.IntN(len(out.Tuples)), s.IntN(len(out.Tuples))
		switch s.IntN(4) {
		case 0:
			out.Tuples[i], out.Tuples[k] = out.Tuples[k], out.Tuples[i]
		case 1:
			out.Tuples[i] = out.Tuples[k]
		case 2:
			out.Tuples[i].Values = append(ints(7), out.Tuples[i].Values...)
		case 3:
			out.Tuples[i].Values[0].Type = 3 - out.Tuples[i].Values[0].Type
		}
	}
	return out
}
