package rank

import (
	"cmp"
	"slices"

	"interlocutor/api"
)

// inTurn holds a against b by one order after the other, until they differ.
func inTurn[T any](a, b T, orders ...func(a, b T) int) int {
	for _, order := range orders {
		if is := order(a, b); is != 0 {
			return is
		}
	}
	return 0
}

type value api.Value

func (v value) byKind(w value) int { return cmp.Compare(v.Kind, w.Kind) }

func (v value) byMany(w value) int { return cmp.Compare(len(v.F), len(w.F)) }

func (v value) byFields(w value) int { return slices.Compare(v.F, w.F) }
