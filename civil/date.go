package civil

// Days are counted in cycles of 400 years, all of them alike. A year is counted
// from March on, so that the day that leap years have more is its last one.
const (
	cycleYears = 400
	cycleDays  = 146097
	epoch      = 719468 // from 0-03-01 to 1970-01-01
	thursday   = 3      // the weekday of 1970-01-01
)

// date is a year, a month, a day: an array, so that == holds two of them
// against each other.
type date [3]int

// isBetween tells whether there is such a day, in a year from first to last: one
// that is not comes back from its number as another one.
func (d date) isBetween(first, last int) bool {
	return within(d[0], first, last) && dateOf(d.number()) == d
}

// number tells how many days d is behind 1970-01-01.
func (d date) number() int {
	y, m := d[0], d[1]-3
	if m < 0 {
		y, m = y-1, m+12
	}
	cycle := floor(y, cycleYears)
	return cycle*cycleDays + daysAheadOfYear(y-cycle*cycleYears) + daysAheadOfMonth(m) + d[2] - 1 - epoch
}

func (d date) weekday() int {
	n := d.number() + thursday
	return n - 7*floor(n, 7)
}

// monthsOn goes so many months on; the day is the month's last one, if it has
// no such day.
func (d date) monthsOn(months int) date {
	n := d[0]*12 + d[1] - 1 + months
	y := floor(n, 12)
	m := n - 12*y + 1
	return date{y, m, min(d[2], length(y, m))}
}

// dateOf is number's way back.
func dateOf(days int) date {
	n := days + epoch
	cycle := floor(n, cycleDays)
	n -= cycle * cycleDays
	// With a cycle's leap days taken out, each of its years has 365 days.
	y := (n - n/1460 + n/36524 - n/(cycleDays-1)) / 365
	n -= daysAheadOfYear(y)
	m := (5*n + 2) / 153
	d := n - daysAheadOfMonth(m) + 1
	y += cycle * cycleYears
	if m < 10 {
		return date{y, m + 3, d}
	}
	return date{y + 1, m - 9, d}
}

// daysAheadOfYear tells how many days of a cycle are ahead of its year y, 0 to 399.
func daysAheadOfYear(y int) int { return 365*y + y/4 - y/100 }

// daysAheadOfMonth tells how many days of a year are ahead of its month m, 0
// (March) to 11: each five months from March on have 153 days.
func daysAheadOfMonth(m int) int { return (153*m + 2) / 5 }

// length tells how many days month m, 1 to 12, has, of any year.
func length(y, m int) int {
	switch m {
	case 2:
		if leap(y) {
			return 29
		}
		return 28
	case 4, 6, 9, 11:
		return 30
	}
	return 31
}

func leap(y int) bool { return y%4 == 0 && (y%100 != 0 || y%400 == 0) }

// floor divides n by a divisor above 0, and rounds down: Go's own division
// rounds towards 0, and would count days ahead of a cycle's beginning wrongly.
func floor(n, divisor int) int {
	q := n / divisor
	if n%divisor < 0 {
		q--
	}
	return q
}
