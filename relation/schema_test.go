package relation

import (
	"math"
	"strings"
	"testing"

	"credence/api"
	"credence/value"
)

const nameBytes = "ABCDEFGHIJKLMNOPQRSTUVWXYZabcdefghijklmnopqrstuvwxyz0123456789_"

// Every byte as the first one, in the middle and as the last one.
func TestNameBytes(t *testing.T) {
	for c := range 256 {
		s := string([]byte{byte(c)})
		at := strings.Index(nameBytes, s)
		for _, x := range []struct {
			name string
			want bool
		}{{s, 0 <= at && at < 52}, {s + "a", 0 <= at && at < 52}, {"a" + s, at >= 0}, {"Z" + s + "_", at >= 0}, {strings.Repeat("x", api.MaxNameLen-1) + s, at >= 0}} {
			if ValidName(x.name) != x.want {
				t.Errorf("ValidName(%q) is %v", x.name, !x.want)
			}
		}
	}
}

func TestNameLengths(t *testing.T) {
	for n := range 3 * api.MaxNameLen {
		for _, s := range []string{strings.Repeat("a", n), strings.Repeat("Z_9", n)[:n]} {
			if want := 1 <= n && n <= api.MaxNameLen; ValidName(s) != want {
				t.Errorf("a name of %d bytes: ValidName is %v", n, !want)
			}
		}
	}
	for _, s := range []string{"\u00e9", "a\u00e9", "\u0391", "a\u00b2", "\u0661", "a\u0661", "a\uff3f", "a\xff", "\x00", "a\x00", strings.Repeat("a", 1<<20)} {
		if ValidName(s) {
			t.Errorf("ValidName(%.20q) is true", s)
		}
	}
}

// checkSchema fails the test if ValidSchema(s) is not want, or CheckTuple and Validate disagree.
func checkSchema(t *testing.T, s api.Schema, want bool) {
	t.Helper()
	if ValidSchema(s) != want {
		t.Errorf("ValidSchema(%v) is %v", s, !want)
	}
	wantErrno := api.OK
	if !want {
		wantErrno = api.ErrInvalid
	}
	checkErrno(t, "Validate without tuples", Validate(rel(s)), wantErrno)
	if !want {
		checkErrno(t, "CheckTuple", CheckTuple(s, row(frac(2, 1))), api.ErrInvalid)
	}
}

func TestSchemaColumns(t *testing.T) {
	for n := range 3 * api.MaxColumns {
		for _, kind := range []string{"i", "s", "I", "S"} {
			checkSchema(t, schema(strings.Repeat(kind, n)), 1 <= n && n <= api.MaxColumns)
		}
		checkSchema(t, certain(strings.Repeat("s", n)), 1 <= n && n <= api.MaxColumns)
	}
	long := schema("i")
	for range 20 {
		long.Columns = append(long.Columns, long.Columns...)
	}
	checkSchema(t, long, false)
	checkSchema(t, api.Schema{}, false)
	checkSchema(t, api.Schema{Certain: true}, false)
}

// Each column, and the relation, with valid and invalid names.
func TestSchemaNames(t *testing.T) {
	for _, x := range []struct {
		name string
		want bool
	}{{"x", true}, {"X_9", true}, {"R", true}, {strings.Repeat("n", api.MaxNameLen), true}, {"", false}, {"_", false}, {"1", false}, {"x ", false}, {"x-y", false}, {"\u00e9", false}, {strings.Repeat("n", api.MaxNameLen+1), false}} {
		for n := 1; n <= api.MaxColumns; n++ {
			s := schema(strings.Repeat("i", n))
			s.Name = x.name
			checkSchema(t, s, x.want)
			for i := range n {
				s := schema(strings.Repeat("i", n))
				s.Columns[i].Name = x.name
				checkSchema(t, s, x.want)
			}
		}
	}
}

// Each pair of columns with one name. Names that differ in a letter's case are distinct.
func TestSchemaRepeatedNames(t *testing.T) {
	for i := range api.MaxColumns {
		for k := range i {
			s := schema("isIsSi")
			s.Columns[i].Name = s.Columns[k].Name
			checkSchema(t, s, false)
			s.Columns[i].Name = strings.ToUpper(s.Columns[k].Name)
			checkSchema(t, s, true)
			s.Columns[i].Name = s.Columns[k].Name + "_"
			checkSchema(t, s, true)
		}
	}
}

func TestSchemaTypes(t *testing.T) {
	types := []int{math.MinInt, math.MaxInt, 257, 258, 1<<32 + 1}
	for n := -5; n <= 5; n++ {
		types = append(types, n)
	}
	for _, kind := range types {
		for i := range api.MaxColumns {
			s := schema("isIsSi")
			s.Columns[i].Type = kind
			checkSchema(t, s, kind == api.TypeInt || kind == api.TypeString)
		}
	}
}

// A certain relation has no key columns.
func TestSchemaOfCertainRelation(t *testing.T) {
	for n := 1; n <= api.MaxColumns; n++ {
		checkSchema(t, certain(strings.Repeat("s", n)), true)
		for i := range n {
			s := certain(strings.Repeat("i", n))
			s.Columns[i].Key = true
			checkSchema(t, s, false)
			s.Certain = false
			checkSchema(t, s, true)
		}
	}
}

// checkTuple fails the test if CheckTuple does not return want.
func checkTuple(t *testing.T, s api.Schema, tuple api.Tuple, want api.Errno) {
	t.Helper()
	if got := CheckTuple(s, tuple); got != want {
		t.Errorf("CheckTuple(%v, %v) is %d, want %d", s, tuple, got, want)
	}
}

func TestTupleLength(t *testing.T) {
	for n := 1; n <= api.MaxColumns; n++ {
		for k := range 2 * api.MaxColumns {
			want := api.ErrType
			if k == n {
				want = api.OK
			}
			checkTuple(t, schema(strings.Repeat("I", n)), row(frac(1, 2), make([]int64, k)...), want)
			checkTuple(t, certain(strings.Repeat("i", n)), row(frac(1, 1), make([]int64, k)...), want)
		}
	}
	checkTuple(t, schema("i"), row(frac(1, 2), make([]int64, 1<<20)...), api.ErrType)
}

func TestTupleValues(t *testing.T) {
	for _, x := range []struct {
		v    api.Value
		want int
	}{
		{value.NewInt(0), 1}, {value.NewInt(math.MinInt64), 1}, {value.NewInt(math.MaxInt64), 1},
		{value.NewString(""), 2}, {value.NewString("it's"), 2}, {value.NewString(strings.Repeat("~", api.MaxStringLen)), 2},
		{api.Value{}, 0}, {api.Value{Type: 3}, 0}, {api.Value{Type: -1}, 0}, {api.Value{Type: api.TypeInt, Str: "a"}, 0}, {api.Value{Type: api.TypeString, Int: 1}, 0},
		{value.NewString("\n"), 0}, {value.NewString("\x7f"), 0}, {value.NewString(strings.Repeat("~", api.MaxStringLen+1)), 0},
	} {
		for i := range 3 {
			for column, kinds := range []string{"iii", "sss"} {
				tuple := row(frac(1, 2), 1, 2, 3)
				if column == 1 {
					tuple.Values = []api.Value{value.NewString("1"), value.NewString("2"), value.NewString("3")}
				}
				tuple.Values[i] = x.v
				want := api.ErrType
				if x.want == column+1 {
					want = api.OK
				}
				checkTuple(t, schema(kinds), tuple, want)
			}
		}
	}
}

func TestTupleProbability(t *testing.T) {
	limit := power(api.MaxNatBits-1, 1)
	over := power(api.MaxNatBits, 1)
	below := power(api.MaxNatBits, 0)
	for _, x := range []struct {
		p             api.Frac
		inside, isOne bool
	}{
		{frac(0, 1), true, false}, {frac(1, 2), true, false}, {frac(1, 1), true, true}, {frac(7, 7), true, true}, {frac(4, 6), true, false}, {frac(0, 9), true, false},
		{frac(6, 7), true, false}, {frac(8, 7), false, false}, {frac(2, 1), false, false}, {frac(-1, 1), false, false}, {frac(-1, 7), false, false}, {frac(-7, 7), false, false},
		{api.Frac{}, true, false}, {api.Frac{Neg: true}, true, false}, {api.Frac{Neg: true, Num: api.Nat{5}}, true, false}, {api.Frac{Num: api.Nat{5}, Den: api.Nat{0, 0}}, true, false}, {api.Frac{Neg: true, Num: api.Nat{0}, Den: api.Nat{3}}, true, false},
		{api.Frac{Num: api.Nat{3, 0, 0}, Den: api.Nat{3, 0}}, true, true}, {api.Frac{Num: api.Nat{0, 1}, Den: api.Nat{0, 1, 0}}, true, true}, {api.Frac{Num: api.Nat{1, 1}, Den: api.Nat{0, 1}}, false, false}, {api.Frac{Num: api.Nat{9}, Den: api.Nat{0, 1}}, true, false},
		{api.Frac{Num: api.Nat{1}, Den: limit}, true, false}, {api.Frac{Num: power(api.MaxNatBits-1, 0), Den: limit}, true, false}, {api.Frac{Num: limit, Den: limit}, true, true}, {api.Frac{Num: power(api.MaxNatBits-1, 2), Den: limit}, false, false},
		{api.Frac{Num: api.Nat{1}, Den: over}, false, false}, {api.Frac{Num: below, Den: over}, false, false}, {api.Frac{Num: over, Den: over}, true, true}, {api.Frac{Num: api.Nat{0, 0}, Den: over}, true, false},
		{api.Frac{Num: api.Nat{1}, Den: below}, false, false}, {api.Frac{Num: api.Nat{2}, Den: below}, true, false}, {api.Frac{Num: power(api.MaxNatBits-9, 0), Den: below}, true, false}, {api.Frac{Neg: true, Num: api.Nat{1}, Den: below}, false, false},
	} {
		want, wantCertain := api.ErrProbability, api.ErrProbability
		if x.inside {
			want = api.OK
		}
		if x.isOne {
			wantCertain = api.OK
		}
		checkErrno(t, "CheckTuple", CheckTuple(schema("i"), row(x.p, 1)), want)
		checkErrno(t, "CheckTuple with a key", CheckTuple(schema("iI"), row(x.p, 1, 2)), want)
		checkErrno(t, "CheckTuple for a certain relation", CheckTuple(certain("i"), row(x.p, 1)), wantCertain)
	}
}

// Of several errors, the first one counts.
func TestTupleErrorOrder(t *testing.T) {
	bad := api.Schema{Name: "R"}
	checkTuple(t, bad, row(frac(2, 1), 1), api.ErrInvalid)
	checkTuple(t, bad, row(frac(1, 2)), api.ErrInvalid)
	checkTuple(t, schema("Ii"), row(frac(2, 1), 1), api.ErrType)
	checkTuple(t, schema("Is"), row(frac(-2, 1), 1, 2), api.ErrType)
	checkTuple(t, certain("is"), row(frac(1, 2), 1, 2), api.ErrType)
	checkTuple(t, schema("Ii"), row(frac(2, 1), 1, 2), api.ErrProbability)
}
