package rank_test

import (
	"fmt"
	"math"
	"slices"
	"testing"

	"interlocutor/api"
	"interlocutor/rank"
)

func value(kind int, f ...int) api.Value { return api.Value{Kind: kind, F: f} }

func at(cost int, v api.Value) api.Reading { return api.Reading{V: v, Cost: cost} }

func list(l ...api.Reading) []api.Reading { return l }

// extremes are numbers at the bounds of what there is, rising.
func extremes() []int {
	return []int{math.MinInt, math.MinInt + 1, -1, 0, 1, math.MaxInt - 1, math.MaxInt}
}

// write writes readings: kind, fields, cost. It does not tell nil from empty (P2).
func write(l []api.Reading) string {
	text := ""
	for _, r := range l {
		text += fmt.Sprintf("%d%v:%d ", r.V.Kind, r.V.F, r.Cost)
	}
	return text
}

// cutTo is what Best should tell, where a list is all values in their order.
func cutTo(most int, l ...api.Reading) string {
	n := min(most, len(l))
	return fmt.Sprint(write(l[:n]), n < len(l))
}

// best is what Best tells.
func best(l []api.Reading, most int) string {
	out, cut := rank.Best(l, most)
	return fmt.Sprint(write(out), cut)
}

// expect holds what Best tells against all values in their order, for each most from
// 0 to more than there are.
func expect(t *testing.T, l []api.Reading, want ...api.Reading) {
	t.Helper()
	mosts := []int{len(want) + 99, math.MaxInt - 1, math.MaxInt}
	for most := range len(want) + 3 {
		mosts = append(mosts, most)
	}
	for _, most := range mosts {
		if got := best(l, most); got != cutTo(most, want...) {
			t.Errorf("P1001: Best of %v, %d: %s, not %s", l, most, got, cutTo(most, want...))
		}
	}
}

// meantLess reads P1001's words of Cmp once more, one number after the other.
func meantLess(a, b api.Value) bool {
	if a.Kind != b.Kind {
		return a.Kind < b.Kind
	}
	if len(a.F) != len(b.F) {
		return len(a.F) < len(b.F)
	}
	for i := range a.F {
		if a.F[i] != b.F[i] {
			return a.F[i] < b.F[i]
		}
	}
	return false
}

// isAhead tells whether a is told ahead of b.
func isAhead(a, b api.Reading) bool {
	return a.Cost < b.Cost || a.Cost == b.Cost && meantLess(a.V, b.V)
}

// meant reads P1001's words of Best once more: as long as there is one, the first of
// all is taken out, and with it all others of its value.
func meant(l []api.Reading) []api.Reading {
	var out []api.Reading
	for left := slices.Clone(l); len(left) > 0; {
		first := left[0]
		for _, r := range left {
			if isAhead(r, first) {
				first = r
			}
		}
		out = append(out, first)
		left = slices.DeleteFunc(left, func(r api.Reading) bool {
			return r.V.Kind == first.V.Kind && slices.Equal(r.V.F, first.V.F)
		})
	}
	return out
}
