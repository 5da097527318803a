package relation

import (
	"slices"

	"credence/api"
	"credence/rational"
	"credence/value"
)

// Insert returns r with t added at its position.
func Insert(r api.Relation, t api.Tuple) (api.Relation, api.Errno) {
	if errno := Validate(r); errno != api.OK {
		return api.Relation{}, errno
	}
	if errno := CheckTuple(r.Schema, t); errno != api.OK {
		return api.Relation{}, errno
	}
	at, found := slices.BinarySearchFunc(r.Tuples, t.Values, compareValues)
	others := othersInBlock(r, t.Values)
	switch {
	case found:
		return api.Relation{}, api.ErrDuplicate
	case len(r.Tuples) >= api.MaxTuples, len(others) >= api.MaxAlts:
		return api.Relation{}, api.ErrTooLarge
	case exceedsOne(append(others, t.Prob)):
		return api.Relation{}, api.ErrProbability
	}
	out := copyOf(r)
	out.Tuples = slices.Insert(out.Tuples, at, copyOfTuple(t))
	return out, api.OK
}

// Delete returns r without the tuple with these values.
func Delete(r api.Relation, values []api.Value) (api.Relation, api.Errno) {
	i, errno := locate(r, values)
	if errno != api.OK {
		return api.Relation{}, errno
	}
	out := copyOf(r)
	out.Tuples = slices.Delete(out.Tuples, i, i+1)
	return out, api.OK
}

// SetProb returns r with the probability p for the tuple with these values.
func SetProb(r api.Relation, values []api.Value, p api.Frac) (api.Relation, api.Errno) {
	i, errno := locate(r, values)
	if errno != api.OK {
		return api.Relation{}, errno
	}
	if !validProb(r.Schema, p) || exceedsOne(append(othersInBlock(r, values), p)) {
		return api.Relation{}, api.ErrProbability
	}
	out := copyOf(r)
	out.Tuples[i].Prob = rational.Normalize(p)
	return out, api.OK
}

// locate returns the index of the tuple with these values, or the error of Validate, or ErrNotFound.
func locate(r api.Relation, values []api.Value) (int, api.Errno) {
	if errno := Validate(r); errno != api.OK {
		return 0, errno
	}
	i, found := Find(r, values)
	if !found {
		return 0, api.ErrNotFound
	}
	return i, api.OK
}

// othersInBlock lists the probabilities of the other tuples in the block of a tuple with these values, whether it is in r or not. They share the memory of r.
func othersInBlock(r api.Relation, values []api.Value) []api.Frac {
	key := blockKey(r.Schema, values)
	var out []api.Frac
	for _, t := range r.Tuples {
		if value.CompareTuples(blockKey(r.Schema, t.Values), key) == 0 && compareValues(t, values) != 0 {
			out = append(out, t.Prob)
		}
	}
	return out
}

// copyOf returns a copy of r with canonical probabilities that shares no memory with r.
func copyOf(r api.Relation) api.Relation {
	out := api.Relation{Schema: r.Schema}
	out.Schema.Columns = slices.Clone(r.Schema.Columns)
	for _, t := range r.Tuples {
		out.Tuples = append(out.Tuples, copyOfTuple(t))
	}
	return out
}

// copyOfTuple returns a copy of t with a canonical probability that shares no memory with t.
func copyOfTuple(t api.Tuple) api.Tuple {
	return api.Tuple{Values: slices.Clone(t.Values), Prob: rational.Normalize(t.Prob)}
}
