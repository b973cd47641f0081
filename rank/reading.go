package rank

import (
	"cmp"

	"interlocutor/api"
)

type reading api.Reading

func readingOf(r api.Reading) reading { return reading(r) }

// own tells a reading whose fields nobody else has: r's are those handed in.
func (r reading) own() api.Reading {
	r.V.F = append([]int(nil), r.V.F...)
	return api.Reading(r)
}

func (r reading) byValue(s reading) int { return Cmp(r.V, s.V) }

func (r reading) byCost(s reading) int { return cmp.Compare(r.Cost, s.Cost) }

// byValueCost puts readings of one value side by side, the cheapest of them first.
func (r reading) byValueCost(s reading) int {
	return inTurn(r, s, reading.byValue, reading.byCost)
}

// byCostValue is the order in which readings are told.
func (r reading) byCostValue(s reading) int {
	return inTurn(r, s, reading.byCost, reading.byValue)
}

func (r reading) isAlike(s reading) bool { return r.byValue(s) == 0 }

// each tells what becomes of each of a list, as a list of its own.
func each[T, U any](list []T, become func(T) U) []U {
	out := make([]U, len(list))
	for i, x := range list {
		out[i] = become(x)
	}
	return out
}
