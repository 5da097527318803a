package relation

import (
	"math/rand/v2"
	"slices"
	"testing"

	"credence/api"
	"credence/value"
)

// checkInsert fails the test if Insert does not return want with t at its position, or this error.
func checkInsert(t *testing.T, r api.Relation, tuple api.Tuple, want api.Errno) {
	t.Helper()
	got, errno := Insert(r, tuple)
	checkErrno(t, "Insert", errno, want)
	if want != api.OK {
		checkNoRelation(t, "Insert", got)
		return
	}
	checkRelation(t, "Insert", got, r.Schema, replaced(r, append(slices.Clone(r.Tuples), tuple)).Tuples)
}

// checkDelete fails the test if Delete does not return r without that tuple, or this error.
func checkDelete(t *testing.T, r api.Relation, values []api.Value, want api.Errno) {
	t.Helper()
	got, errno := Delete(r, values)
	checkErrno(t, "Delete", errno, want)
	if want != api.OK {
		checkNoRelation(t, "Delete", got)
		return
	}
	rest := slices.DeleteFunc(slices.Clone(r.Tuples), func(x api.Tuple) bool { return slices.Equal(x.Values, values) })
	checkRelation(t, "Delete", got, r.Schema, rest)
}

// checkSetProb fails the test if SetProb does not return r with that probability replaced, or this error.
func checkSetProb(t *testing.T, r api.Relation, values []api.Value, p api.Frac, want api.Errno) {
	t.Helper()
	got, errno := SetProb(r, values, p)
	checkErrno(t, "SetProb", errno, want)
	if want != api.OK {
		checkNoRelation(t, "SetProb", got)
		return
	}
	l := slices.Clone(r.Tuples)
	l[indexOf(r, values)].Prob = p
	checkRelation(t, "SetProb", got, r.Schema, l)
}

// sample is a valid relation with a block of two tuples and one of one; not all probabilities are reduced.
func sample() api.Relation {
	return rel(schema("Ii"), row(frac(2, 4), 1, 5), row(frac(1, 4), 1, 7), row(frac(3, 6), 3, 0))
}

func TestInsert(t *testing.T) {
	r, quarter := sample(), frac(2, 8)
	for _, x := range []struct {
		tuple api.Tuple
		want  api.Errno
	}{
		{row(quarter, 1, 4), api.OK}, {row(quarter, 1, 6), api.OK}, {row(quarter, 1, 8), api.OK}, {row(frac(0, 5), 1, 6), api.OK}, {row(api.Frac{}, 1, 6), api.OK},
		{row(frac(9, 9), 0, 0), api.OK}, {row(frac(1, 1), 2, 9), api.OK}, {row(frac(1, 2), 3, -1), api.OK}, {row(frac(1, 2), 3, 1), api.OK}, {row(frac(1, 1), 4, 0), api.OK},
		{row(frac(26, 100), 1, 6), api.ErrProbability}, {row(frac(1, 1), 3, 1), api.ErrProbability}, {row(frac(3, 2), 9, 9), api.ErrProbability}, {row(frac(-1, 2), 9, 9), api.ErrProbability},
		{row(quarter, 1, 7), api.ErrDuplicate}, {row(frac(1, 1), 1, 7), api.ErrDuplicate}, {row(api.Frac{}, 1, 5), api.ErrDuplicate}, {row(frac(1, 2), 3, 0), api.ErrDuplicate},
		{row(quarter, 1), api.ErrType}, {row(quarter, 1, 7, 0), api.ErrType}, {row(quarter), api.ErrType}, {api.Tuple{Values: []api.Value{value.NewInt(1), value.NewString("x")}}, api.ErrType}, {api.Tuple{Values: []api.Value{{}, value.NewInt(1)}}, api.ErrType},
	} {
		checkInsert(t, r, x.tuple, x.want)
	}
	checkInsert(t, rel(schema("Ii")), row(frac(4, 6), 1, 1), api.OK)
	checkInsert(t, rel(certain("ii")), row(frac(4, 4), 1, 1), api.OK)
	checkInsert(t, rel(certain("ii"), row(frac(1, 1), 1, 2)), row(frac(4, 4), 1, 1), api.OK)
	checkInsert(t, rel(certain("ii"), row(frac(1, 1), 1, 2)), row(frac(1, 2), 1, 1), api.ErrProbability)
	checkInsert(t, rel(certain("ii"), row(frac(1, 1), 1, 2)), row(frac(1, 1), 1, 2), api.ErrDuplicate)
}

// Without key columns, or if all columns are keys, each tuple is a block of its own. The block of a tuple need not consist of neighbours.
func TestInsertBlocks(t *testing.T) {
	for _, x := range []struct {
		kinds string
		want  api.Errno
	}{{"ii", api.OK}, {"II", api.OK}, {"Ii", api.ErrProbability}, {"iI", api.ErrProbability}} {
		r := rel(schema(x.kinds), row(frac(1, 3), 1, 7), row(frac(1, 3), 4, 2), row(frac(1, 3), 7, 1))
		checkInsert(t, r, row(frac(2, 3), 4, 1), api.OK)
		checkInsert(t, r, row(frac(5, 7), 4, 1), x.want)
		checkInsert(t, r, row(frac(1, 1), 5, 5), api.OK)
	}
}

func TestInsertLimits(t *testing.T) {
	tiny := frac(1, 1000)
	for n := range api.MaxTuples + 1 {
		want, wantBlock := api.OK, api.OK
		if n >= api.MaxTuples {
			want = api.ErrTooLarge
		}
		if n >= api.MaxAlts {
			wantBlock = api.ErrTooLarge
		}
		checkInsert(t, rel(schema("ii"), rows(n, tiny)...), row(tiny, 5, 100), want)
		checkInsert(t, rel(schema("II"), rows(n, tiny)...), row(tiny, 5, 100), want)
		checkInsert(t, rel(certain("ii"), rows(n, frac(1, 1))...), row(frac(1, 1), 5, 100), want)
		if n <= api.MaxAlts {
			checkInsert(t, rel(schema("Ii"), rows(n, tiny)...), row(tiny, 5, 100), wantBlock)
			checkInsert(t, rel(schema("Ii"), rows(n, tiny)...), row(tiny, 5, -1), wantBlock)
			checkInsert(t, rel(schema("Ii"), rows(n, tiny)...), row(tiny, 6, 100), api.OK)
		}
	}
}

// Of several errors, the first one counts: those of the relation, those of the tuple, a duplicate, the limits, the sum.
func TestInsertErrorOrder(t *testing.T) {
	half, tiny := frac(1, 2), frac(1, 1000)
	full := rel(schema("ii"), rows(api.MaxTuples, tiny)...)
	block := rel(schema("Ii"), rows(api.MaxAlts, frac(1, api.MaxAlts))...)
	for _, x := range []struct {
		r     api.Relation
		tuple api.Tuple
		want  api.Errno
	}{
		{rel(api.Schema{}), row(frac(2, 1)), api.ErrInvalid},
		{rel(schema("Ii"), row(half, 2, 0), row(half, 1, 0)), row(half, 1), api.ErrInvalid},
		{rel(schema("Ii"), row(half, 2, 0), row(half, 2, 0)), row(half, 2), api.ErrDuplicate},
		{rel(schema("Ii"), row(half)), row(frac(2, 1), 1, 1), api.ErrType},
		{rel(schema("ii"), rows(api.MaxTuples+1, tiny)...), row(half, 5, 3), api.ErrTooLarge},
		{rel(schema("Ii"), rows(3, half)...), row(half, 5, 1), api.ErrProbability},
		{full, row(half, 5), api.ErrType},
		{full, row(frac(2, 1), 5, 3), api.ErrProbability},
		{full, row(half, 5, 3), api.ErrDuplicate},
		{full, row(frac(2, 1), 5, 99), api.ErrProbability},
		{block, row(frac(2, 1), 5, 3), api.ErrProbability},
		{block, row(half, 5, 3), api.ErrDuplicate},
		{block, row(half, 5, 99), api.ErrTooLarge},
		{rel(schema("Ii"), slices.Concat(rows(api.MaxAlts, frac(1, api.MaxAlts)), []api.Tuple{row(half, 6, 1)})...), row(half, 6, 1), api.ErrDuplicate},
	} {
		checkInsert(t, x.r, x.tuple, x.want)
	}
	// 16 full blocks of 4 fill the relation, so that it has no room although the sum is exceeded as well.
	blocks := rel(schema("Ii"))
	for i := range int64(api.MaxTuples) {
		blocks.Tuples = append(blocks.Tuples, row(frac(1, 4), i/4, i))
	}
	checkInsert(t, blocks, row(half, 0, 99), api.ErrTooLarge)
}

func TestDelete(t *testing.T) {
	r := sample()
	for _, x := range r.Tuples {
		checkDelete(t, r, x.Values, api.OK)
		checkDelete(t, rel(schema("Ii"), x), x.Values, api.OK)
	}
	words := rel(schema("sS"), api.Tuple{Values: []api.Value{value.NewString(""), value.NewString("it's")}, Prob: frac(2, 6)})
	checkDelete(t, words, words.Tuples[0].Values, api.OK)
	facts := rel(certain("ii"), row(frac(1, 1), 1, 1), row(frac(2, 2), 1, 2), row(frac(3, 3), 2, 1))
	checkDelete(t, facts, ints(1, 2), api.OK)
	full := rel(schema("ii"), rows(api.MaxTuples, frac(2, 4))...)
	for i := range int64(api.MaxTuples) {
		checkDelete(t, full, ints(5, i), api.OK)
	}
}

func TestDeleteErrors(t *testing.T) {
	r := sample()
	for _, values := range [][]api.Value{nil, {}, ints(1), ints(1, 6), ints(1, 5, 0), ints(2, 5), ints(0, 0), ints(9, 9), {value.NewInt(1), value.NewString("5")}, {{}, {}}, make([]api.Value, 100)} {
		checkDelete(t, r, values, api.ErrNotFound)
		checkSetProb(t, r, values, frac(1, 8), api.ErrNotFound)
		checkSetProb(t, r, values, frac(9, 8), api.ErrNotFound)
		checkDelete(t, rel(schema("Ii")), values, api.ErrNotFound)
		checkSetProb(t, rel(certain("ii")), values, frac(1, 1), api.ErrNotFound)
	}
	half := frac(1, 2)
	for _, x := range []struct {
		r    api.Relation
		want api.Errno
	}{
		{rel(api.Schema{}), api.ErrInvalid},
		{rel(schema("Ii"), row(half, 2, 0), row(half, 1, 0)), api.ErrInvalid},
		{rel(schema("Ii"), row(half, 2, 0), row(half, 2, 0)), api.ErrDuplicate},
		{rel(schema("Ii"), row(half)), api.ErrType},
		{rel(schema("ii"), rows(api.MaxTuples+1, half)...), api.ErrTooLarge},
		{rel(schema("Ii"), rows(api.MaxAlts+1, frac(1, 99))...), api.ErrTooLarge},
		{rel(schema("Ii"), rows(3, half)...), api.ErrProbability},
		{rel(certain("ii"), row(half, 5, 0)), api.ErrProbability},
	} {
		// Neither the absence of the tuple nor its removal hides that the relation is invalid.
		values := [][]api.Value{nil, ints(5, 0), ints(2, 0)}
		for _, v := range append(values, ints(5, api.MaxTuples)) {
			checkDelete(t, x.r, v, x.want)
			checkSetProb(t, x.r, v, frac(0, 1), x.want)
			checkSetProb(t, x.r, v, frac(2, 1), x.want)
		}
	}
}

func TestSetProb(t *testing.T) {
	r := sample()
	for _, x := range []struct {
		values []api.Value
		p      api.Frac
		want   api.Errno
	}{
		{ints(1, 5), frac(6, 8), api.OK}, {ints(1, 5), frac(2, 4), api.OK}, {ints(1, 5), frac(0, 3), api.OK}, {ints(1, 5), api.Frac{}, api.OK}, {ints(1, 5), api.Frac{Neg: true, Num: api.Nat{7}}, api.OK}, {ints(1, 5), frac(76, 100), api.ErrProbability}, {ints(1, 5), frac(1, 1), api.ErrProbability},
		{ints(1, 7), frac(3, 6), api.OK}, {ints(1, 7), frac(51, 100), api.ErrProbability}, {ints(1, 7), frac(-1, 100), api.ErrProbability},
		{ints(3, 0), frac(7, 7), api.OK}, {ints(3, 0), frac(8, 7), api.ErrProbability}, {ints(3, 0), frac(-8, 7), api.ErrProbability},
		{ints(3, 0), api.Frac{Num: api.Nat{1}, Den: power(api.MaxNatBits, 1)}, api.ErrProbability}, {ints(3, 0), api.Frac{Num: api.Nat{2}, Den: power(api.MaxNatBits, 0)}, api.OK},
	} {
		checkSetProb(t, r, x.values, x.p, x.want)
	}
	facts := rel(certain("ii"), row(frac(1, 1), 1, 1), row(frac(2, 2), 1, 2))
	checkSetProb(t, facts, ints(1, 2), frac(5, 5), api.OK)
	checkSetProb(t, facts, ints(1, 2), frac(4, 5), api.ErrProbability)
	checkSetProb(t, facts, ints(1, 2), api.Frac{}, api.ErrProbability)
	// A full block can be changed.
	full := rel(schema("Ii"), rows(api.MaxAlts, frac(1, api.MaxAlts))...)
	for i := range int64(api.MaxAlts) {
		checkSetProb(t, full, ints(5, i), frac(3, 3*api.MaxAlts), api.OK)
		checkSetProb(t, full, ints(5, i), frac(1, api.MaxAlts+1), api.OK)
		checkSetProb(t, full, ints(5, i), frac(1, api.MaxAlts-1), api.ErrProbability)
	}
	many := rel(schema("ii"), rows(api.MaxTuples, frac(1, 1))...)
	checkSetProb(t, many, ints(5, api.MaxTuples-1), frac(2, 4), api.OK)
}

// randomTarget returns values that are often those of a tuple of r.
func randomTarget(s *rand.Rand, r api.Relation) []api.Value {
	if len(r.Tuples) > 0 && s.IntN(3) > 0 {
		return r.Tuples[s.IntN(len(r.Tuples))].Values
	}
	return randomValues(s, r.Schema.Columns, 6)
}

// checkResult fails the test if a result is not what the model says.
func checkResult(t *testing.T, what string, got api.Relation, errno api.Errno, want api.Relation, wantErrno api.Errno) {
	t.Helper()
	checkErrno(t, what, errno, wantErrno)
	if errno != api.OK {
		checkNoRelation(t, what, got)
		return
	}
	checkRelation(t, what, got, want.Schema, want.Tuples)
}

// All functions on random relations, compared with the model.
func TestRandomRelations(t *testing.T) {
	s := newSource(1)
	counts := map[api.Errno]int{}
	for range 20000 {
		random := randomRelation(s)
		r, before := spareRelation(random), wholeRelation(spareRelation(random))
		want := wantValidate(r)
		counts[want]++
		checkErrno(t, "Validate", Validate(r), want)
		var blocks [][]int
		if want == api.OK && !r.Schema.Certain {
			blocks = wantBlocks(r)
		}
		checkAllBlocks(t, r, blocks)
		values, p := randomTarget(s, r), randomProb(s, r.Schema.Certain, 1+s.Int32N(6))
		checkFind(t, r, values, indexOf(r, values))
		tuple := api.Tuple{Values: values, Prob: p}
		checkErrno(t, "CheckTuple", CheckTuple(r.Schema, tuple), wantTuple(r.Schema, tuple))

		got, errno := Insert(r, tuple)
		wanted, wantErrno := wantInsert(r, tuple)
		checkResult(t, "Insert", got, errno, wanted, wantErrno)
		got, errno = Delete(r, values)
		wanted, wantErrno = wantDelete(r, values)
		checkResult(t, "Delete", got, errno, wanted, wantErrno)
		got, errno = SetProb(r, values, p)
		wanted, wantErrno = wantSetProb(r, values, p)
		checkResult(t, "SetProb", got, errno, wanted, wantErrno)
		checkMemory(t, wholeRelation(r), before)
	}
	for _, errno := range []api.Errno{api.OK, api.ErrInvalid, api.ErrTooLarge, api.ErrType, api.ErrDuplicate, api.ErrProbability} {
		if counts[errno] < 50 {
			t.Errorf("only %d relations with error %d", counts[errno], errno)
		}
	}
}

// A sequence of updates of one relation, each of which starts from the result of the one before.
func TestUpdateSequences(t *testing.T) {
	s := newSource(2)
	for range 300 {
		r := rel(randomSchema(s))
		for range 60 {
			values, p := randomTarget(s, r), randomProb(s, r.Schema.Certain, 1+s.Int32N(6))
			next, errno := r, api.OK
			want, wantErrno := r, api.OK
			switch s.IntN(5) {
			case 0:
				next, errno = Delete(r, values)
				want, wantErrno = wantDelete(r, values)
			case 1:
				next, errno = SetProb(r, values, p)
				want, wantErrno = wantSetProb(r, values, p)
			default:
				tuple := api.Tuple{Values: randomValues(s, r.Schema.Columns, 6), Prob: p}
				next, errno = Insert(r, tuple)
				want, wantErrno = wantInsert(r, tuple)
			}
			checkResult(t, "an update", next, errno, want, wantErrno)
			if errno == api.OK {
				r = next
			}
		}
	}
}

// The arguments, with their spare capacity, stay as they are, and results share no memory with them or within themselves.
func TestMemory(t *testing.T) {
	values, p := ints(1, 7), frac(2, 8)
	long := api.Frac{Num: api.Nat{1, 2, 3}, Den: api.Nat{3, 4, 5, 6, 0}}
	for _, r := range []api.Relation{
		sample(), rel(schema("ii"), row(long, 1, 5), row(long, 1, 7)), rel(schema("Ii"), row(long, 1, 5), row(long, 1, 7), row(long, 9, 9)),
		rel(schema("Ii"), row(frac(7, 7), 0, 5), row(frac(0, 1), 1, 7)), rel(schema("ii"), append([]api.Tuple{row(frac(2, 2), 1, 7)}, rows(40, frac(1, 3))...)...),
	} {
		argument, key, tuple := spareRelation(r), spare(values, value.NewInt(4)), spareTuple(row(p, 1, 6))
		// The second round would see if the first one had kept a part of the arguments.
		for range 2 {
			inserted, e1 := Insert(argument, tuple)
			deleted, e2 := Delete(argument, key)
			changed, e3 := SetProb(argument, key, tuple.Prob)
			if e1+e2+e3 != api.OK {
				t.Fatal("errors", e1, e2, e3)
			}
			overwrite(t, "Insert", inserted)
			overwrite(t, "Delete", deleted)
			overwrite(t, "SetProb", changed)
			rest, _ := Remainder(argument, 0)
			clear(whole(rest.Num))
			clear(whole(rest.Den))
			Find(argument, key)
			checkMemory(t, wholeRelation(argument), wholeRelation(spareRelation(r)))
			checkMemory(t, whole(key), whole(spare(values, value.NewInt(4))))
			checkMemory(t, wholeTuple(tuple), wholeTuple(spareTuple(row(p, 1, 6))))
		}
	}
}
