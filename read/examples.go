package read

import (
	"slices"

	"interlocutor/act"
	"interlocutor/api"
)

// currencyDigits is how many currencies there are of other digits each.
const currencyDigits = 10

// examples tells lists of what an action may be of. They are the easiest ones: if
// it makes something of a value and any others, then of that value and the others
// of an example, too.
func examples(op, many int) [][]api.Value {
	switch op {
	case api.ADate:
		return same(number(1, 4), many)
	case api.AThis, api.ATime:
		return same(number(1, 1), many)
	case api.AHalf:
		return [][]api.Value{append(slices.Repeat([]api.Value{number(1, 1)}, many-1), word(0))}
	case api.AMoment:
		return [][]api.Value{{value(api.VDate, 1, 1, 1), value(api.VTime, 0, 0, 0)}}
	case api.ARel:
		// Near the first and the last year there are days on one side alone.
		return [][]api.Value{{number(0, 1), word(1), word(1)}, {number(0, 1), word(1), word(-1)}}
	case api.APoint:
		return same(number(0, 1), many)
	case api.AGroup:
		return same(number(0, 3), many)
	case api.AMoney:
		return currencies()
	case api.ADur:
		return [][]api.Value{{number(0, 1), word(1)}}
	case api.ASum:
		return same(value(api.VDur, 0), many)
	case api.ASpan:
		return [][]api.Value{{value(api.VDate, 1, 1, 1), value(api.VDate, 9999, 12, 31)}}
	}
	// Those that are left are of one part, in whose stead the value is put.
	return same(api.Value{}, many)
}

// currencies are examples of money: a decimal may be too long for one currency and
// too great for another one.
func currencies() [][]api.Value {
	var lists [][]api.Value
	for currency := range currencyDigits {
		lists = append(lists, []api.Value{word(currency), value(api.VDec, 0, 0)})
	}
	return lists
}

// same is one example, of as many of that value.
func same(v api.Value, many int) [][]api.Value {
	return [][]api.Value{slices.Repeat([]api.Value{v}, many)}
}

func number(n, digits int) api.Value {
	return act.Sign(api.Tok{Class: api.CNumber, Value: n, Len: digits})
}

func word(n int) api.Value { return act.Sign(api.Tok{Class: api.CNumber + 1, Value: n}) }

func value(kind int, f ...int) api.Value { return api.Value{Kind: kind, F: f} }
