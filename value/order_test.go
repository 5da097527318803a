package value

import (
	"cmp"
	"math"
	"slices"
	"testing"

	"credence/api"
)

func TestCompareAscending(t *testing.T) {
	l := ascending()
	for i, a := range l {
		for k, b := range l {
			checkOrder(t, "Compare", a, b, Compare(a, b), cmp.Compare(i, k))
		}
	}
}

// Invalid values are compared as well: by Type, then by Int, then by Str, whatever the type is.
func TestCompareFields(t *testing.T) {
	var l []api.Value
	for _, kind := range []int{math.MinInt, -1, 0, api.TypeInt, api.TypeString, 3, math.MaxInt} {
		for _, n := range []int64{math.MinInt64, -1, 0, 1, math.MaxInt64} {
			for _, s := range []string{"", "\x00", "\x00\x00", "\x1f", " ", "a", "a\x00", "a ", "ab", "b", "\x7f", "\u00e9", "\u00e9a", "\xff", "\xffa"} {
				l = append(l, api.Value{Type: kind, Int: n, Str: s})
			}
		}
	}
	for i, a := range l {
		for k, b := range l {
			checkOrder(t, "Compare", a, b, Compare(a, b), cmp.Compare(i, k))
		}
	}
}

// wantOrder compares two lists as P8.1 defines it.
func wantOrder(a, b []api.Value) int {
	for i := range min(len(a), len(b)) {
		if order := Compare(a[i], b[i]); order != 0 {
			return order
		}
	}
	return cmp.Compare(len(a), len(b))
}

func TestCompareTuples(t *testing.T) {
	one, two, three := NewInt(1), NewInt(2), NewInt(3)
	l := [][]api.Value{
		nil, {{}}, {{}, {}}, {one}, {one, one}, {one, one, three}, {one, two}, {one, NewString("")}, {two}, {two, one}, {two, one, one},
		{three}, {NewString("")}, {NewString(""), one}, {NewString("a")}, {NewString("a"), NewString("b")}, {NewString("ab")}, {{Type: 3}},
	}
	for i, a := range l {
		for k, b := range l {
			checkOrder(t, "CompareTuples", a, b, CompareTuples(a, b), cmp.Compare(i, k))
		}
	}
	checkOrder(t, "CompareTuples", nil, nil, CompareTuples(nil, []api.Value{}), 0)
	checkOrder(t, "CompareTuples", nil, nil, CompareTuples([]api.Value{}, nil), 0)
}

func TestCompareRandomTuples(t *testing.T) {
	s := newSource(1)
	for range 20000 {
		a, b := randomList(s, 4), randomList(s, 4)
		if s.IntN(2) == 0 {
			b = append(slices.Clone(a[:s.IntN(len(a)+1)]), b...)
		}
		checkOrder(t, "CompareTuples", a, b, CompareTuples(a, b), wantOrder(a, b))
		checkOrder(t, "CompareTuples", b, a, CompareTuples(b, a), -wantOrder(a, b))
	}
}

// A difference behind many equal values counts.
func TestCompareLongTuples(t *testing.T) {
	a := slices.Repeat(ascending(), 1000)
	b := slices.Clone(a)
	checkOrder(t, "CompareTuples", "equal", "lists", CompareTuples(a, b), 0)
	b[len(b)-1] = NewString("")
	checkOrder(t, "CompareTuples", "long", "lists", CompareTuples(a, b), 1)
	checkOrder(t, "CompareTuples", "long", "lists", CompareTuples(a[:len(a)-1], a), -1)
}
