package rank_test

import (
	"math"
	"math/rand"
	"slices"
	"testing"

	"interlocutor/api"
	"interlocutor/rank"
)

// rising are values in their order: by kind, by how many fields, by the first field
// that differs; whatever they mean.
func rising() []api.Value {
	return []api.Value{
		value(math.MinInt), value(-1, 5), value(0), value(0, math.MinInt), value(0, -1), value(0, 0), value(0, math.MaxInt), value(0, -9, 9), value(0, 0, -1), value(0, 0, 0), value(0, 0, 7), value(0, 1, -1), value(0, 0, 0, 0), value(0, 0, 0, 0, 0, 0, 0),
		value(3), value(4), value(4, 2024, 2, 28), value(4, 2024, 2, 29), value(4, 2024, 3, 1), value(4, 2025, 1, 1), value(4, 2, 0, 0, 0), value(5, 0, 0, 0), value(10, 1), value(11), value(math.MaxInt, 1, 2), value(math.MaxInt, 1, 3),
	}
}

// P1001: Cmp of any two values.
func TestCmp(t *testing.T) {
	list := rising()
	for i, a := range list {
		for j, b := range list {
			want := 0
			if i < j {
				want = -1
			} else if i > j {
				want = 1
			}
			if got := rank.Cmp(a, b); got != want {
				t.Errorf("P1001: Cmp of %v, %v: %d", a, b, got)
			}
			if same := rank.Code(a) == rank.Code(b); same != (i == j) {
				t.Errorf("P1002: Code of %v, %v: %q, %q", a, b, rank.Code(a), rank.Code(b))
			}
		}
	}
	if rank.Cmp(value(3), api.Value{Kind: 3, F: []int{}}) != 0 {
		t.Error("P2: no list and an empty one are not the same")
	}
}

// P1001: Code of values, of signs and of what is none.
func TestCode(t *testing.T) {
	for want, v := range map[string]api.Value{
		"0": {}, "3": value(api.VMark), "4,2024,2,29": value(api.VDate, 2024, 2, 29), "7,-150,2": value(api.VDec, -150, 2), "9,0": value(api.VDur, 0), "-1": value(-1),
		"10,1,1,1,9999,12,31": value(api.VSpan, 1, 1, 1, 9999, 12, 31), "-9223372036854775808,9223372036854775807,-9223372036854775808": value(math.MinInt, math.MaxInt, math.MinInt),
	} {
		if got := rank.Code(v); got != want {
			t.Errorf("P1001: Code of %v: %q, not %q", v, got, want)
		}
	}
}

// P1001, P1002: Cmp is an order, and values have one Code just where it is 0; they
// are not changed.
func TestAnyValues(t *testing.T) {
	by := rand.New(rand.NewSource(10))
	some := func() api.Value {
		v := value(by.Intn(3))
		for range by.Intn(4) {
			v.F = append(v.F, by.Intn(25)-12)
		}
		return v
	}
	for range 100_000 {
		a, b, c := some(), some(), some()
		if by.Intn(2) == 0 {
			b = value(a.Kind, a.F...)
		}
		was := slices.Clone(a.F)
		ab, bc := rank.Cmp(a, b), rank.Cmp(b, c)
		if ab != -rank.Cmp(b, a) || ab == bc && rank.Cmp(a, c) != ab || (ab == 0) != (rank.Code(a) == rank.Code(b)) || !slices.Equal(a.F, was) {
			t.Fatalf("P1001: %v, %v, %v", a, b, c)
		}
	}
}
