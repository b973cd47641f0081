package render

import (
	"strconv"

	"interlocutor/api"
)

// Seconds of what durations are told in.
const (
	minute = 60
	hour   = 60 * minute
)

// A currency's rest by this is how many digits it has behind the point.
const currencyDigits = 10

// field is a number that a style may write, and how it is written, up to a width.
type field struct {
	numeral
	written func(width int) string
}

// value is what values that are act.Right have in them.
type value []int

// fieldsOf tells the fields of a value that is act.Right.
func fieldsOf(v api.Value) []field {
	ways := [...]func(value) []field{
		api.VDate:   value.numbers,
		api.VTime:   value.numbers,
		api.VMoment: value.numbers,
		api.VDec:    value.decimal,
		api.VMoney:  value.money,
		api.VDur:    value.duration,
		api.VSpan:   value.numbers,
	}
	return ways[v.Kind](v.F)
}

func (f value) numbers() []field {
	fields := make([]field, len(f))
	for i, n := range f {
		number := numeralOf(strconv.Itoa(n))
		fields[i] = field{number, number.ahead}
	}
	return fields
}

func (f value) decimal() []field {
	whole, part := split(f[0], f[1])
	return []field{{whole, whole.ahead}, {part, part.behind}}
}

func (f value) money() []field {
	currency, amount := f[0], f[1]
	units, rest := split(amount, currency%currencyDigits)
	return append(f[:1].numbers(), field{units, units.ahead}, field{rest, rest.alone})
}

func (f value) duration() []field {
	seconds := f[0]
	return value{seconds, seconds / hour, seconds % hour / minute, seconds % minute}.numbers()
}
