package civil_test

import (
	"math"
	"testing"
	"time"

	"interlocutor/api"
	"interlocutor/civil"
)

// lengthOf is a month's length as the calendar's rule says it, apart from the program.
func lengthOf(y, m int) int {
	if m == 2 && (y%400 == 0 || y%4 == 0 && y%100 != 0) {
		return 29
	}
	return [...]int{31, 28, 31, 30, 31, 30, 31, 31, 30, 31, 30, 31}[m-1]
}

// far holds numbers that no year, month or day may be.
func far() []int {
	return []int{math.MinInt, math.MinInt + 1, math.MinInt / 2, -1 << 32, 1 << 32, 1 << 62, math.MaxInt - 1, math.MaxInt}
}

// P101, P103: every day of W1's years, one behind the other.
func TestEveryDay(t *testing.T) {
	n, weekday := -4371953, 5 // 1970-01-01 is 0, and 3
	for y := -10000; y <= 20000; y++ {
		for m := 1; m <= 12; m++ {
			if got := civil.Length(y, m); got != lengthOf(y, m) {
				t.Fatalf("P101: Length(%d, %d): %d", y, m, got)
			}
			for d := 1; d <= lengthOf(y, m); d++ {
				if y == 1970 && m == 1 && d == 1 && (n != 0 || weekday != 3) {
					t.Fatalf("the test counts wrongly: %d, %d", n, weekday)
				}
				if got := civil.Days(y, m, d); got != n {
					t.Fatalf("P101: Days(%d, %d, %d): %d, not %d", y, m, d, got, n)
				}
				if a, b, c := civil.Civil(n); a != y || b != m || c != d {
					t.Fatalf("P103: Civil(%d): %d, %d, %d, not %d, %d, %d", n, a, b, c, y, m, d)
				}
				if got := civil.Weekday(y, m, d); got != weekday {
					t.Fatalf("P101: Weekday(%d, %d, %d): %d, not %d", y, m, d, got, weekday)
				}
				n, weekday = n+1, (weekday+1)%7
			}
		}
	}
}

// P101: days that are known from elsewhere.
func TestKnownDays(t *testing.T) {
	for _, x := range []struct{ y, m, d, days, weekday int }{
		{1970, 1, 1, 0, 3},
		{1970, 1, 2, 1, 4},
		{1969, 12, 31, -1, 2},
		{2000, 2, 29, 11016, 1},
		{1582, 10, 15, -141427, 4},
		{0, 3, 1, -719468, 2},
		{1, 1, 1, -719162, 0},
		{9999, 12, 31, 2932896, 4},
		{-10000, 1, 1, -4371953, 5},
		{20000, 12, 31, 6585687, 6},
	} {
		if got := civil.Days(x.y, x.m, x.d); got != x.days {
			t.Errorf("P101: Days(%d, %d, %d): %d, not %d", x.y, x.m, x.d, got, x.days)
		}
		if y, m, d := civil.Civil(x.days); y != x.y || m != x.m || d != x.d {
			t.Errorf("P101: Civil(%d): %d, %d, %d", x.days, y, m, d)
		}
		if got := civil.Weekday(x.y, x.m, x.d); got != x.weekday {
			t.Errorf("P101: Weekday(%d, %d, %d): %d, not %d", x.y, x.m, x.d, got, x.weekday)
		}
	}
}

// P101: Right of each year's edge, of each month and day from behind their edges on.
func TestRightDays(t *testing.T) {
	for _, y := range []int{-10000, -4, -1, 0, 1, 4, 100, 400, 1900, 2000, 2023, 2024, 9996, 9999, 10000, 20000} {
		for m := -13; m <= 26; m++ {
			for d := -40; d <= 70; d++ {
				want := y >= 1 && y <= 9999 && m >= 1 && m <= 12 && d >= 1 && d <= lengthOf(y, m)
				if civil.Right(api.Moment{Y: y, M: m, D: d}) != want {
					t.Fatalf("P101: Right of %d-%d-%d: not %v", y, m, d, want)
				}
			}
		}
	}
}

// P101: Right of each hour, minute, second from behind their edges on.
func TestRightTimes(t *testing.T) {
	for n := -70; n <= 130; n++ {
		x := api.Moment{Y: 2024, M: 2, D: 29, H: n, I: 59, S: 59}
		if civil.Right(x) != (n >= 0 && n <= 23) {
			t.Errorf("P101: Right of hour %d", n)
		}
		x.H, x.I = 23, n
		if civil.Right(x) != (n >= 0 && n <= 59) {
			t.Errorf("P101: Right of minute %d", n)
		}
		x.I, x.S = 59, n
		if civil.Right(x) != (n >= 0 && n <= 59) {
			t.Errorf("P101: Right of second %d", n)
		}
	}
}

// P101, P9: Right of numbers so great that reckoning with them wraps round.
func TestRightFar(t *testing.T) {
	for _, n := range far() {
		for i := range 6 {
			x := api.Moment{Y: 2024, M: 2, D: 29, H: 23, I: 59, S: 59}
			*[]*int{&x.Y, &x.M, &x.D, &x.H, &x.I, &x.S}[i] = n
			if civil.Right(x) {
				t.Errorf("P101: Right of %v", x)
			}
		}
	}
}

// P102: examples, the edges among them.
func TestAdd(t *testing.T) {
	for _, x := range []struct {
		y, m, d, months, days int
		a, b, c               int
		is                    bool
	}{
		{2024, 5, 17, 0, 0, 2024, 5, 17, true},
		{2024, 1, 31, 1, 0, 2024, 2, 29, true},
		{2023, 1, 31, 1, 0, 2023, 2, 28, true},
		{2023, 1, 31, 1, 1, 2023, 3, 1, true}, // months first, then days
		{2023, 1, 31, 13, -1, 2024, 2, 28, true},
		{2024, 3, 31, -1, 0, 2024, 2, 29, true},
		{2024, 2, 29, -12, 0, 2023, 2, 28, true},
		{2024, 2, 28, 1, 0, 2024, 3, 28, true}, // no last day stays a last day
		{2024, 1, 15, -1, 0, 2023, 12, 15, true},
		{2024, 12, 15, 1, 0, 2025, 1, 15, true},
		// the years 1 and 9999
		{1, 1, 1, 0, 0, 1, 1, 1, true},
		{1, 1, 1, 0, -1, 0, 0, 0, false},
		{1, 1, 31, -1, 0, 0, 0, 0, false},
		{9999, 12, 31, 0, 0, 9999, 12, 31, true},
		{9999, 12, 31, 0, 1, 0, 0, 0, false},
		{9999, 12, 1, 1, 0, 0, 0, 0, false},
		{1, 1, 1, 119987, 30, 9999, 12, 31, true},
		{9999, 12, 31, -119987, -30, 1, 1, 1, true},
		{1, 1, 1, 0, 3652058, 9999, 12, 31, true},
		{9999, 12, 31, 0, -3652058, 1, 1, 1, true},
		// beyond those years, and beyond W1's, and back
		{1, 1, 1, -1, 31, 1, 1, 1, true},
		{9999, 12, 31, 1, -31, 9999, 12, 31, true},
		{2000, 1, 1, 300000, -9131063, 2000, 1, 1, true},
		{2000, 1, 1, -300000, 9131062, 2000, 1, 1, true}, // a day less: 2000 is a leap year, -23000 is none
		// how far it may be
		{2000, 1, 1, -328548, 10_000_000, 2000, 1, 27, true},
		{2000, 1, 1, -328548, 10_000_001, 0, 0, 0, false},
		{2000, 1, 1, 328548, -10_000_000, 1999, 12, 7, true},
		{2000, 1, 1, 328548, -10_000_001, 0, 0, 0, false},
		{1, 1, 1, 448535, -10_000_000, 9999, 11, 6, true},
		{9999, 12, 31, -448535, 10_000_000, 1, 2, 25, true},
		{2000, 1, 1, 1_000_000, -10_000_000, 0, 0, 0, false},
		{2000, 1, 1, -1_000_000, 10_000_000, 0, 0, 0, false},
		{2000, 1, 1, 1_000_001, -10_000_000, 0, 0, 0, false},
		{2000, 1, 1, -1_000_001, 10_000_000, 0, 0, 0, false},
		{2000, 1, 1, 1_200_000, -36524250, 0, 0, 0, false},
	} {
		a, b, c, is := civil.Add(x.y, x.m, x.d, x.months, x.days)
		if a != x.a || b != x.b || c != x.c || is != x.is {
			t.Errorf("P102: Add(%d, %d, %d, %d, %d): %d, %d, %d, %v", x.y, x.m, x.d, x.months, x.days, a, b, c, is)
		}
	}
}

// addByTime is P102 by the library's calendar.
func addByTime(y, m, d, months, days int) (int, int, int, bool) {
	month := time.Date(y, time.Month(m+months), 1, 0, 0, 0, 0, time.UTC)
	to := month.AddDate(0, 0, min(d, lengthOf(month.Year(), int(month.Month())))-1+days)
	if to.Year() < 1 || to.Year() > 9999 {
		return 0, 0, 0, false
	}
	return to.Year(), int(to.Month()), to.Day(), true
}

// P102: against the library, with months near 0, or far off and days that go about as far back.
func TestAddByTime(t *testing.T) {
	for _, y := range []int{1, 4, 100, 1999, 2000, 2024, 9996, 9999} {
		for m := 1; m <= 12; m++ {
			for _, d := range []int{1, 15, 28, lengthOf(y, m)} {
				for months := -328_000; months <= 328_000; months += 1999 {
					for _, days := range []int{0, -31, 366, -months * 30436875 / 1_000_000, -months * 30436875 / 1_000_000 / 2} {
						a, b, c, is := civil.Add(y, m, d, months, days)
						p, q, r, want := addByTime(y, m, d, months, days)
						if a != p || b != q || c != r || is != want {
							t.Fatalf("P102: Add(%d, %d, %d, %d, %d): %d, %d, %d, %v, not %d, %d, %d, %v", y, m, d, months, days, a, b, c, is, p, q, r, want)
						}
					}
				}
			}
		}
	}
}

// P102, P9: any months, any days. In so many months as wraps has, days are
// again as many as at the beginning, if their number wraps round.
func TestAddFar(t *testing.T) {
	const wraps = (1<<64 + 146097/2) / 146097 * 4800
	for _, n := range append(far(), wraps, -wraps, 1_000_001, -1_000_001) {
		for _, k := range append(far(), 0, 1, -1, 10_000_000, -10_000_000) {
			if a, b, c, is := civil.Add(2000, 1, 1, n, k); is || a != 0 || b != 0 || c != 0 {
				t.Errorf("P102: Add of %d months, %d days: %d, %d, %d, %v", n, k, a, b, c, is)
			}
		}
	}
	for _, n := range append(far(), 10_000_001, -10_000_001) {
		if a, b, c, is := civil.Add(2000, 1, 1, 0, n); is || a != 0 || b != 0 || c != 0 {
			t.Errorf("P102: Add of %d days: %d, %d, %d, %v", n, a, b, c, is)
		}
	}
}

// P1, P8: whatever is handed in where a day that is should be, each call ends
// and answers zero values.
func TestNoSuchDay(t *testing.T) {
	type day struct{ y, m, d int }
	days := []day{{2023, 2, 29}, {2024, 2, 30}, {2024, 4, 31}, {2024, 0, 1}, {2024, 13, 1}, {2024, 1, 0}, {2024, 1, 32}, {2024, -1, -1}, {-10001, 12, 31}, {20001, 1, 1}}
	for _, n := range far() {
		days = append(days, day{n, 1, 1}, day{2024, n, 1}, day{2024, 1, n}, day{n, n, n})
	}
	for _, x := range days {
		if got := civil.Days(x.y, x.m, x.d); got != 0 {
			t.Errorf("P8: Days of %v: %d", x, got)
		}
		if got := civil.Weekday(x.y, x.m, x.d); got != 0 {
			t.Errorf("P8: Weekday of %v: %d", x, got)
		}
		if a, b, c, is := civil.Add(x.y, x.m, x.d, 1, 1); is || a != 0 || b != 0 || c != 0 {
			t.Errorf("P8: Add to %v: %d, %d, %d, %v", x, a, b, c, is)
		}
	}
	// days that are, but whose years no value has: they would come to years that one may have
	for _, x := range []struct{ y, months int }{{0, 12}, {10000, -12}} {
		if a, b, c, is := civil.Add(x.y, 6, 15, x.months, 0); is || a != 0 || b != 0 || c != 0 {
			t.Errorf("P8: Add to a day of the year %d: %d, %d, %d, %v", x.y, a, b, c, is)
		}
	}
}

// P1, P8: months and numbers of days that may not be.
func TestNoSuchMonth(t *testing.T) {
	for _, n := range append(far(), -4371954, 6585688) {
		if y, m, d := civil.Civil(n); y != 0 || m != 0 || d != 0 {
			t.Errorf("P8: Civil(%d): %d, %d, %d", n, y, m, d)
		}
	}
	for _, n := range append(far(), -10001, 20001) {
		if got := civil.Length(n, 2); got != 0 {
			t.Errorf("P8: Length(%d, 2): %d", n, got)
		}
	}
	for _, n := range append(far(), -1, 0, 13) {
		if got := civil.Length(2024, n); got != 0 {
			t.Errorf("P8: Length(2024, %d): %d", n, got)
		}
	}
}
