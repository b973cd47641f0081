// Package civil: days. See doc/01-civil.md.
//
// Where a call is handed what may not be (no such day, month or year), it
// answers zero values.
package civil

import (
	"interlocutor/api"
)

// Years that the calendar has here, and those that a value may have.
const (
	firstYear = -10000
	lastYear  = 20000
	leastYear = 1
	mostYear  = 9999
)

// How far Add goes, either way.
const (
	mostMonths = 1_000_000
	mostDays   = 10_000_000
)

// Days tells how many days a day is behind 1970-01-01 (ahead: below 0).
func Days(y, m, d int) int { return tell(date{y, m, d}, date.number) }

// Civil tells the day that is so many days behind 1970-01-01.
func Civil(days int) (y, m, d int) {
	to := dateOf(days)
	if !within(to[0], firstYear, lastYear) {
		return 0, 0, 0
	}
	return to[0], to[1], to[2]
}

// Length tells how many days a month has.
func Length(y, m int) int {
	if !within(y, firstYear, lastYear) || !within(m, 1, 12) {
		return 0
	}
	return length(y, m)
}

// Weekday tells a day's place in its week: 0 Monday to 6 Sunday.
func Weekday(y, m, d int) int { return tell(date{y, m, d}, date.weekday) }

// Right tells whether a moment is one that a value may have.
func Right(t api.Moment) bool {
	return date{t.Y, t.M, t.D}.isBetween(leastYear, mostYear) &&
		within(t.H, 0, 23) && within(t.I, 0, 59) && within(t.S, 0, 59)
}

// Add goes so many months on from a day, then so many days. On its way it may
// leave the years that a day may have, if it ends among them.
func Add(y, m, d, months, days int) (int, int, int, bool) {
	from := date{y, m, d}
	if !from.isBetween(leastYear, mostYear) ||
		!within(months, -mostMonths, mostMonths) || !within(days, -mostDays, mostDays) {
		return 0, 0, 0, false
	}
	to := dateOf(from.monthsOn(months).number() + days)
	if !within(to[0], leastYear, mostYear) {
		return 0, 0, 0, false
	}
	return to[0], to[1], to[2], true
}

// tell answers a question about a day that is, and 0 about one that is not.
func tell(d date, question func(date) int) int {
	if !d.isBetween(firstYear, lastYear) {
		return 0
	}
	return question(d)
}

func within(n, low, high int) bool { return low <= n && n <= high }
