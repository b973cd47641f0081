package act

import (
	"slices"

	"interlocutor/api"
	"interlocutor/civil"
	"interlocutor/dec"
)

// Classes of words and marks.
const (
	firstWord = 1
	lastMark  = api.CMark + len(api.Marks) - 1
)

// Bounds of values.
const (
	leastYear    = 1
	mostYear     = 9999
	mostDigits   = 1_000_000_000_000_000_000 - 1 // of decimals, and of money's least unit
	mostCurrency = 1_000_000_000
	mostSeconds  = 1<<53 - 1
)

// Years of one or two digits are those from half a century ahead of ref's on.
const century = 100

// fields tells of each kind how many F it has.
var fields = [...]int{
	api.VNumber: 2,
	api.VWord:   1,
	api.VMark:   0,
	api.VDate:   3,
	api.VTime:   3,
	api.VMoment: 6,
	api.VDec:    2,
	api.VMoney:  2,
	api.VDur:    1,
	api.VSpan:   6,
}

// isWhole tells whether a value is of a kind that there is, and has as many F as
// that asks for.
func isWhole(v api.Value) bool {
	return within(v.Kind, api.VNumber, api.VSpan) && len(v.F) == fields[v.Kind]
}

// isBounded tells whether what a value has in it (as many as its kind asks for) is
// within that kind's bounds; signs have none.
func isBounded(kind int, f []int) bool {
	switch kind {
	case api.VDate:
		return isDay(f)
	case api.VTime:
		return civil.Right(api.Moment{Y: leastYear, M: 1, D: 1, H: f[0], I: f[1], S: f[2]})
	case api.VMoment:
		return civil.Right(api.Moment{Y: f[0], M: f[1], D: f[2], H: f[3], I: f[4], S: f[5]})
	case api.VDec:
		return isNormed(f[0], f[1])
	case api.VMoney:
		return within(f[0], 0, mostCurrency) && within(f[1], -mostDigits, mostDigits)
	case api.VDur:
		return within(f[0], 0, mostSeconds)
	case api.VSpan:
		return isDay(f[:3]) && isDay(f[3:]) && slices.Compare(f[:3], f[3:]) <= 0
	}
	return false
}

func isDay(f []int) bool { return civil.Right(api.Moment{Y: f[0], M: f[1], D: f[2]}) }

func isNormed(m, scale int) bool {
	if !within(m, -mostDigits, mostDigits) || !within(scale, 0, api.MaxDigits) {
		return false // of what is no decimal dec.Norm may tell anything
	}
	n, least := dec.Norm(m, scale)
	return n == m && least == scale
}

// near tells the year with that rest by 100, half a century ahead of a year at
// most.
func near(rest, year int) int {
	first := year - century/2
	// Go's rest has the sign of what is divided, and years may begin below 0.
	return first + ((rest-first)%century+century)%century
}

func within(n, low, high int) bool { return low <= n && n <= high }
