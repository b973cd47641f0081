package act_test

import (
	"fmt"
	"math/rand"
	"slices"
	"testing"
	"time"

	"interlocutor/act"
	"interlocutor/api"
)

// row is what an action makes of children, by hand.
type row struct {
	l    []api.Value
	want string
}

// rows checks them, from the leap day.
func rows(t *testing.T, op int, list ...row) {
	t.Helper()
	for _, x := range list {
		makes(t, op, x.l, leap(), x.want)
		if got := meant(op, x.l, leap()); got != x.want {
			t.Errorf("op %d of %v is meant otherwise: %s", op, x.l, got)
		}
	}
}

// each is a value of each kind, signs too.
func each() []api.Value { return append(vals(num(7, 1), word(1), val(api.VMark)), some()...) }

// others checks that nothing is made where a child is of another kind than one of
// kinds, which the row that is handed in has at each of its places.
func others(t *testing.T, op int, l []api.Value, kinds ...[]int) {
	t.Helper()
	if got := made(t, op, l, leap()); got == "none" {
		t.Errorf("P802: op %d of %v: none", op, l)
	}
	for at := range l {
		for _, v := range each() {
			if slices.Contains(kinds[at], v.Kind) {
				continue
			}
			changed := slices.Clone(l)
			changed[at] = v
			makes(t, op, changed, leap(), "none")
		}
	}
}

// Kinds of children.
func numbers() []int { return []int{api.VNumber} }
func words() []int   { return []int{api.VWord} }
func count() []int   { return []int{api.VNumber, api.VWord} }

// P802: APick tells any value as it is, one that is not Right, too.
func TestPick(t *testing.T) {
	for _, v := range append(each(), num(0, 18), num(most, 18), word(-1e9), date(2023, 2, 29), date(0, 0, 0), val(api.VTime, 24, 0, 0), val(api.VMoment, 1, 1), number(150, 2), val(api.VMoney, -1, 0), dur(-1), dur(longest+1), val(api.VSpan, 2024, 1, 2, 2024, 1, 1)) {
		makes(t, api.APick, vals(v), leap(), text(v, true))
		l := vals(word(9), v, num(3, 1))
		if got, is := act.Do(api.Act{Op: api.APick, P: []int{1}}, l, leap()); text(got, is) != text(v, true) {
			t.Errorf("P802: picked of %v: %v, %v", l, got, is)
		}
	}
}

// P802: ADate.
func TestDate(t *testing.T) {
	rows(t, api.ADate,
		row{vals(num(2024, 4), num(2, 1), num(29, 2)), "{4 [2024 2 29]}"}, row{vals(num(2023, 4), num(2, 1), num(29, 2)), "none"},
		row{vals(num(24, 2), word(2), num(29, 2)), "{4 [2024 2 29]}"}, row{vals(num(74, 2), num(1, 2), num(1, 2)), "{4 [1974 1 1]}"}, row{vals(num(73, 2), num(1, 2), num(1, 2)), "{4 [2073 1 1]}"},
		row{vals(num(5, 1), word(12), num(31, 2)), "{4 [2005 12 31]}"}, row{vals(num(24, 3), word(1), num(1, 1)), "{4 [24 1 1]}"},
		row{vals(num(9999, 4), word(12), num(31, 2)), "{4 [9999 12 31]}"}, row{vals(num(10000, 5), word(1), num(1, 2)), "none"}, row{vals(num(0, 3), word(1), num(1, 2)), "none"}, row{vals(num(1, 4), word(1), num(1, 2)), "{4 [1 1 1]}"},
		row{vals(num(2024, 4), num(0, 1), num(1, 1)), "none"}, row{vals(num(2024, 4), word(13), num(1, 1)), "none"}, row{vals(num(2024, 4), word(-1), num(1, 1)), "none"}, row{vals(num(2024, 4), word(1), num(0, 1)), "none"}, row{vals(num(2024, 4), word(1), num(32, 2)), "none"},
		row{vals(num(most, 18), num(most, 18), num(most, 18)), "none"},
	)
	others(t, api.ADate, vals(num(2024, 4), num(2, 1), num(3, 1)), numbers(), count(), numbers())
	others(t, api.ADate, vals(num(2024, 4), word(2), num(3, 1)), numbers(), count(), numbers())
}

// P802: AThis, of ref's year.
func TestThis(t *testing.T) {
	rows(t, api.AThis,
		row{vals(num(2, 1), num(29, 2)), "{4 [2024 2 29]}"}, row{vals(word(12), num(31, 2)), "{4 [2024 12 31]}"}, row{vals(word(2), num(30, 2)), "none"},
		row{vals(num(13, 2), num(1, 1)), "none"}, row{vals(word(-1), num(1, 1)), "none"}, row{vals(num(1, 1), num(0, 1)), "none"}, row{vals(num(1, 2), num(1, 2)), "{4 [2024 1 1]}"},
	)
	others(t, api.AThis, vals(num(2, 1), num(3, 1)), count(), numbers())
	others(t, api.AThis, vals(word(2), num(3, 1)), count(), numbers())
	makes(t, api.AThis, vals(num(2, 1), num(29, 2)), day(2023, 7, 1), "none")
	makes(t, api.AThis, vals(num(1, 1), num(1, 1)), day(1, 12, 31), "{4 [1 1 1]}")
	makes(t, api.AThis, vals(num(12, 2), num(31, 2)), day(9999, 1, 1), "{4 [9999 12 31]}")
}

// P802: ATime, with a second and without.
func TestTime(t *testing.T) {
	rows(t, api.ATime,
		row{vals(num(9, 1), num(5, 2)), "{5 [9 5 0]}"}, row{vals(num(0, 1), num(0, 2)), "{5 [0 0 0]}"}, row{vals(num(23, 2), num(59, 2)), "{5 [23 59 0]}"}, row{vals(num(24, 2), num(0, 2)), "none"}, row{vals(num(0, 1), num(60, 2)), "none"},
		row{vals(num(9, 1), num(5, 2), num(7, 1)), "{5 [9 5 7]}"}, row{vals(num(23, 2), num(59, 2), num(59, 2)), "{5 [23 59 59]}"}, row{vals(num(23, 2), num(59, 2), num(60, 2)), "none"}, row{vals(num(24, 2), num(0, 2), num(0, 2)), "none"}, row{vals(num(0, 2), num(60, 2), num(0, 2)), "none"},
	)
	others(t, api.ATime, vals(num(9, 1), num(5, 2)), numbers(), numbers())
	others(t, api.ATime, vals(num(9, 1), num(5, 2), num(7, 1)), numbers(), numbers(), numbers())
}

// P802: AHalf: each hour of both halves, hours and halves that are none, minutes.
func TestHalf(t *testing.T) {
	rows(t, api.AHalf,
		row{vals(num(0, 1), word(0)), "none"}, row{vals(num(1, 1), word(0)), "{5 [1 0 0]}"}, row{vals(num(11, 2), word(0)), "{5 [11 0 0]}"}, row{vals(num(12, 2), word(0)), "{5 [0 0 0]}"}, row{vals(num(13, 2), word(0)), "none"},
		row{vals(num(0, 1), word(1)), "none"}, row{vals(num(1, 1), word(1)), "{5 [13 0 0]}"}, row{vals(num(11, 2), word(1)), "{5 [23 0 0]}"}, row{vals(num(12, 2), word(1)), "{5 [12 0 0]}"}, row{vals(num(13, 2), word(1)), "none"},
		row{vals(num(9, 1), word(-1)), "none"}, row{vals(num(9, 1), word(2)), "none"}, row{vals(num(9, 1), word(12)), "none"}, row{vals(num(24, 2), word(0)), "none"},
		row{vals(num(9, 1), num(15, 2), word(0)), "{5 [9 15 0]}"}, row{vals(num(12, 2), num(59, 2), word(0)), "{5 [0 59 0]}"}, row{vals(num(12, 2), num(0, 2), word(1)), "{5 [12 0 0]}"}, row{vals(num(9, 1), num(60, 2), word(1)), "none"}, row{vals(num(0, 1), num(15, 2), word(1)), "none"}, row{vals(num(13, 2), num(15, 2), word(0)), "none"}, row{vals(num(9, 1), num(15, 2), word(2)), "none"}, row{vals(num(9, 1), num(15, 2), word(-1)), "none"},
	)
	others(t, api.AHalf, vals(num(9, 1), word(1)), numbers(), words())
	others(t, api.AHalf, vals(num(9, 1), num(5, 2), word(1)), numbers(), numbers(), words())
	for hour := 1; hour <= 12; hour++ {
		for half := range 2 {
			makes(t, api.AHalf, vals(num(hour, 2), num(hour, 2), word(half)), leap(), fmt.Sprintf("{5 [%d %d 0]}", hour%12+12*half, hour))
		}
	}
}

// P802: AMoment.
func TestMoment(t *testing.T) {
	rows(t, api.AMoment,
		row{vals(date(2024, 2, 29), val(api.VTime, 9, 30, 15)), "{6 [2024 2 29 9 30 15]}"}, row{vals(date(1, 1, 1), val(api.VTime, 0, 0, 0)), "{6 [1 1 1 0 0 0]}"}, row{vals(date(9999, 12, 31), val(api.VTime, 23, 59, 59)), "{6 [9999 12 31 23 59 59]}"},
		row{vals(val(api.VTime, 9, 30, 15), date(2024, 2, 29)), "none"},
	)
	others(t, api.AMoment, vals(date(2024, 2, 29), val(api.VTime, 9, 30, 15)), []int{api.VDate}, []int{api.VTime})
}

// P802: ARel by each unit, both ways, by counts of both kinds and both signs.
func TestRel(t *testing.T) {
	rows(t, api.ARel,
		row{vals(num(1, 1), word(1), word(1)), "{4 [2024 3 1]}"}, row{vals(num(1, 1), word(1), word(-1)), "{4 [2024 2 28]}"}, row{vals(word(1), word(1), word(1)), "{4 [2024 3 1]}"}, row{vals(word(-1), word(1), word(1)), "{4 [2024 2 28]}"}, row{vals(word(-1), word(1), word(-1)), "{4 [2024 3 1]}"}, row{vals(num(0, 1), word(1), word(-1)), "{4 [2024 2 29]}"},
		row{vals(num(1, 1), word(2), word(1)), "{4 [2024 3 7]}"}, row{vals(num(1, 1), word(2), word(-1)), "{4 [2024 2 22]}"}, row{vals(num(10, 2), word(2), word(1)), "{4 [2024 5 9]}"},
		row{vals(num(1, 1), word(3), word(1)), "{4 [2024 3 29]}"}, row{vals(num(1, 1), word(3), word(-1)), "{4 [2024 1 29]}"}, row{vals(num(12, 2), word(3), word(1)), "{4 [2025 2 28]}"}, row{vals(num(48, 2), word(3), word(-1)), "{4 [2020 2 29]}"},
		row{vals(num(1, 1), word(4), word(1)), "{4 [2025 2 28]}"}, row{vals(num(4, 1), word(4), word(1)), "{4 [2028 2 29]}"}, row{vals(num(1, 1), word(4), word(-1)), "{4 [2023 2 28]}"}, row{vals(num(2023, 4), word(4), word(-1)), "{4 [1 2 28]}"}, row{vals(num(2024, 4), word(4), word(-1)), "none"}, row{vals(num(7975, 4), word(4), word(1)), "{4 [9999 2 28]}"}, row{vals(num(7976, 4), word(4), word(1)), "none"},
		row{vals(num(1, 1), word(0), word(1)), "none"}, row{vals(num(1, 1), word(5), word(1)), "none"}, row{vals(num(1, 1), word(-1), word(1)), "none"}, row{vals(num(0, 1), word(5), word(1)), "none"},
		row{vals(num(1, 1), word(1), word(0)), "none"}, row{vals(num(1, 1), word(1), word(2)), "none"}, row{vals(num(1, 1), word(1), word(-2)), "none"}, row{vals(num(0, 1), word(1), word(0)), "none"},
	)
	others(t, api.ARel, vals(num(1, 1), word(2), word(1)), count(), words(), words())
	others(t, api.ARel, vals(word(1), word(2), word(1)), count(), words(), words())
}

// P802: ARel with n at its bounds and beyond; where civil.Add has others.
func TestRelBounds(t *testing.T) {
	rows(t, api.ARel,
		row{vals(num(1000000, 7), word(1), word(1)), "{4 [4762 1 26]}"}, row{vals(num(1000001, 7), word(1), word(1)), "none"}, row{vals(word(1000000), word(1), word(1)), "{4 [4762 1 26]}"}, row{vals(word(1000001), word(1), word(1)), "none"},
		row{vals(word(-1000000), word(1), word(-1)), "{4 [4762 1 26]}"}, row{vals(word(-1000001), word(1), word(-1)), "none"}, row{vals(word(-1000000), word(1), word(1)), "none"}, row{vals(num(1000000, 7), word(1), word(-1)), "none"},
		row{vals(num(1000000, 7), word(2), word(1)), "none"}, row{vals(num(1000000, 7), word(3), word(1)), "none"}, row{vals(num(1000000, 7), word(4), word(1)), "none"}, row{vals(num(83334, 5), word(4), word(1)), "none"},
		row{vals(num(most, 18), word(1), word(1)), "none"}, row{vals(num(most, 18), word(4), word(-1)), "none"}, row{vals(word(-1e9), word(1), word(1)), "none"}, row{vals(word(1e9), word(3), word(-1)), "none"},
	)
	late, early := day(9999, 12, 31), day(1, 1, 1)
	makes(t, api.ARel, vals(num(1000000, 7), word(1), word(-1)), late, "{4 [7262 2 2]}")
	makes(t, api.ARel, vals(word(-1000000), word(1), word(1)), late, "{4 [7262 2 2]}")
	makes(t, api.ARel, vals(word(-1000001), word(1), word(1)), late, "none")
	makes(t, api.ARel, vals(num(1, 1), word(1), word(1)), late, "none")
	makes(t, api.ARel, vals(num(1, 1), word(1), word(-1)), early, "none")
	makes(t, api.ARel, vals(num(119987, 6), word(3), word(1)), early, "{4 [9999 12 1]}")
	makes(t, api.ARel, vals(num(119988, 6), word(3), word(1)), early, "none")
	makes(t, api.ARel, vals(num(521722, 6), word(2), word(1)), early, "{4 [9999 12 27]}")
	makes(t, api.ARel, vals(num(521723, 6), word(2), word(1)), early, "none")
}

// P802: ANext of each weekday, from each; behind the last day there is none.
func TestNext(t *testing.T) {
	for at := range 14 {
		from := time.Date(2024, 2, 24+at, 0, 0, 0, 0, time.UTC)
		ref := day(from.Year(), int(from.Month()), from.Day())
		seen := map[string]bool{}
		for weekday := range 7 {
			got := made(t, api.ANext, vals(word(weekday)), ref)
			if want := meant(api.ANext, vals(word(weekday)), ref); got != want {
				t.Errorf("P802: weekday %d behind %v: %s, not %s", weekday, ref, got, want)
			}
			seen[got] = true
		}
		if len(seen) != 7 {
			t.Errorf("P802: behind %v: %v", ref, seen)
		}
	}
	rows(t, api.ANext, // a Thursday
		row{vals(word(4)), "{4 [2024 3 1]}"}, row{vals(word(2)), "{4 [2024 3 6]}"}, row{vals(word(3)), "{4 [2024 3 7]}"}, row{vals(word(0)), "{4 [2024 3 4]}"}, row{vals(word(6)), "{4 [2024 3 3]}"},
		row{vals(word(-1)), "none"}, row{vals(word(7)), "none"}, row{vals(word(1e9)), "none"},
	)
	others(t, api.ANext, vals(word(4)), words())
	for weekday := range 7 { // 9999-12-31 is a Friday
		makes(t, api.ANext, vals(word(weekday)), day(9999, 12, 31), "none")
	}
	makes(t, api.ANext, vals(word(4)), day(9999, 12, 24), "{4 [9999 12 31]}")
	makes(t, api.ANext, vals(word(5)), day(9999, 12, 25), "none")
	makes(t, api.ANext, vals(word(0)), day(1, 1, 1), "{4 [1 1 8]}")
}

// P802: AWhole, APoint.
func TestWholeAndPoint(t *testing.T) {
	rows(t, api.AWhole,
		row{vals(num(0, 1)), "{7 [0 0]}"}, row{vals(num(150, 3)), "{7 [150 0]}"}, row{vals(num(7, 5)), "{7 [7 0]}"}, row{vals(num(most, 18)), "{7 [999999999999999999 0]}"},
	)
	others(t, api.AWhole, vals(num(7, 1)), numbers())
	rows(t, api.APoint,
		row{vals(num(1, 1), num(5, 1)), "{7 [15 1]}"}, row{vals(num(1, 1), num(50, 2)), "{7 [15 1]}"}, row{vals(num(1, 1), num(5, 2)), "{7 [105 2]}"}, row{vals(num(1, 5), num(5, 2)), "{7 [105 2]}"}, row{vals(num(120, 3), num(0, 3)), "{7 [120 0]}"},
		row{vals(num(0, 1), num(0, 18)), "{7 [0 0]}"}, row{vals(num(0, 1), num(1, 18)), "{7 [1 18]}"}, row{vals(num(0, 1), num(most, 18)), "{7 [999999999999999999 18]}"}, row{vals(num(1, 1), num(0, 18)), "none"}, row{vals(num(1, 1), num(0, 17)), "{7 [1 0]}"}, row{vals(num(10, 2), num(0, 17)), "none"}, row{vals(num(most, 18), num(0, 1)), "none"}, row{vals(num(most/10, 17), num(9, 1)), "{7 [999999999999999999 1]}"},
	)
	others(t, api.APoint, vals(num(1, 1), num(5, 1)), numbers(), numbers())
}

// P802: AGroup: digits of the first, of others, in all.
func TestGroup(t *testing.T) {
	of := func(first api.Value, n, group int) []api.Value {
		return append(vals(first), slices.Repeat(vals(num(group, 3)), n)...)
	}
	rows(t, api.AGroup,
		row{vals(num(7, 1)), "{7 [7 0]}"}, row{vals(num(7, 2)), "{7 [7 0]}"}, row{vals(num(7, 3)), "{7 [7 0]}"}, row{vals(num(7, 4)), "none"}, row{vals(num(1234, 4)), "none"}, row{vals(num(0, 1)), "{7 [0 0]}"}, row{vals(num(999, 3)), "{7 [999 0]}"},
		row{vals(num(1, 1), num(234, 3)), "{7 [1234 0]}"}, row{vals(num(12, 2), num(34, 3)), "{7 [12034 0]}"}, row{vals(num(123, 3), num(0, 3)), "{7 [123000 0]}"}, row{vals(num(0, 1), num(7, 3)), "{7 [7 0]}"}, row{vals(num(1234, 4), num(567, 3)), "none"},
		row{vals(num(1, 1), num(2, 1)), "none"}, row{vals(num(1, 1), num(23, 2)), "none"}, row{vals(num(1, 1), num(234, 4)), "none"}, row{vals(num(1, 1), num(2345, 4)), "none"}, row{vals(num(1, 1), num(234, 3), num(56, 2)), "none"}, row{vals(num(1, 1), num(23, 2), num(456, 3)), "none"}, row{vals(num(1, 1), num(234567, 6)), "none"}, row{vals(num(1, 1), num(0, 18)), "none"},
		row{vals(num(1, 1), num(234, 3), num(567, 3)), "{7 [1234567 0]}"}, row{of(num(1, 1), 5, 23), "{7 [1023023023023023 0]}"}, row{of(num(999, 3), 5, 999), "{7 [999999999999999999 0]}"}, row{of(num(0, 3), 5, 0), "{7 [0 0]}"}, row{of(num(12, 2), 5, 999), "{7 [12999999999999999 0]}"},
	)
	others(t, api.AGroup, vals(num(1, 1)), numbers())
	others(t, api.AGroup, vals(num(1, 1), num(234, 3), num(567, 3)), numbers(), numbers(), numbers())
	others(t, api.AGroup, of(num(1, 1), 5, 23), numbers(), numbers(), numbers(), numbers(), numbers(), numbers())
	for _, first := range vals(num(1, 1), num(0, 1), num(0, 3)) { // more than 18 digits
		makes(t, api.AGroup, of(first, 6, 0), leap(), "none")
		makes(t, api.AGroup, of(first, 20, 999), leap(), "none")
	}
}

// P802: ANeg.
func TestNeg(t *testing.T) {
	rows(t, api.ANeg,
		row{vals(number(15, 1)), "{7 [-15 1]}"}, row{vals(number(-15, 1)), "{7 [15 1]}"}, row{vals(number(0, 0)), "{7 [0 0]}"}, row{vals(number(150, 0)), "{7 [-150 0]}"}, row{vals(number(most, 18)), "{7 [-999999999999999999 18]}"}, row{vals(number(-most, 0)), "{7 [999999999999999999 0]}"},
	)
	others(t, api.ANeg, vals(number(15, 1)), []int{api.VDec})
}

// P802: AMoney: currencies, what is finer than their least unit, what is too much.
func TestMoney(t *testing.T) {
	rows(t, api.AMoney,
		row{vals(word(2), number(15, 1)), "{8 [2 150]}"}, row{vals(word(2), number(-15, 1)), "{8 [2 -150]}"}, row{vals(word(2), number(0, 0)), "{8 [2 0]}"}, row{vals(word(2), number(125, 2)), "{8 [2 125]}"}, row{vals(word(2), number(1255, 3)), "none"}, row{vals(word(2), number(1, 3)), "none"},
		row{vals(word(0), number(15, 0)), "{8 [0 15]}"}, row{vals(word(0), number(15, 1)), "none"}, row{vals(word(10), number(15, 0)), "{8 [10 15]}"}, row{vals(word(10), number(15, 1)), "none"}, row{vals(word(13), number(15, 1)), "{8 [13 1500]}"}, row{vals(word(9), number(1, 9)), "{8 [9 1]}"}, row{vals(word(9), number(1, 10)), "none"}, row{vals(word(19), number(1, 9)), "{8 [19 1]}"}, row{vals(word(978002), number(1, 0)), "{8 [978002 100]}"},
		row{vals(word(-1), number(15, 0)), "none"}, row{vals(word(-10), number(15, 0)), "none"}, row{vals(word(-2), number(0, 0)), "none"}, row{vals(word(1e9), number(1, 0)), "{8 [1000000000 1]}"}, row{vals(word(1e9+1), number(1, 0)), "none"}, row{vals(word(1e9-1), number(1, 0)), "{8 [999999999 1000000000]}"},
		row{vals(word(0), number(most, 0)), "{8 [0 999999999999999999]}"}, row{vals(word(0), number(-most, 0)), "{8 [0 -999999999999999999]}"}, row{vals(word(1), number(most, 0)), "none"}, row{vals(word(1), number(-most, 0)), "none"}, row{vals(word(1), number(most, 1)), "{8 [1 999999999999999999]}"}, row{vals(word(2), number(most/100, 0)), "{8 [2 999999999999999900]}"}, row{vals(word(2), number(most/100+1, 0)), "none"},
	)
	others(t, api.AMoney, vals(word(2), number(15, 1)), words(), []int{api.VDec})
}

// P802: ADur: counts, units, the greatest.
func TestDuration(t *testing.T) {
	rows(t, api.ADur,
		row{vals(num(90, 2), word(60)), "{9 [5400]}"}, row{vals(word(90), word(60)), "{9 [5400]}"}, row{vals(num(0, 1), word(60)), "{9 [0]}"}, row{vals(word(0), word(60)), "{9 [0]}"}, row{vals(word(-1), word(60)), "none"}, row{vals(word(-1), word(-60)), "none"}, row{vals(num(7, 1), word(1)), "{9 [7]}"}, row{vals(num(7, 1), word(0)), "none"}, row{vals(num(0, 1), word(0)), "none"}, row{vals(num(7, 1), word(-1)), "none"}, row{vals(num(0, 1), word(-1)), "none"},
		row{vals(num(longest, 16), word(1)), "{9 [9007199254740991]}"}, row{vals(num(longest+1, 16), word(1)), "none"}, row{vals(num(longest/2, 16), word(2)), "{9 [9007199254740990]}"}, row{vals(num(longest/2+1, 16), word(2)), "none"}, row{vals(num(9007199, 7), word(1e9)), "{9 [9007199000000000]}"}, row{vals(num(9007200, 7), word(1e9)), "none"},
		row{vals(num(most, 18), word(1e9)), "none"}, row{vals(num(18446744074, 11), word(1e9)), "none"}, row{vals(num(36893488147419104, 17), word(500)), "none"}, row{vals(word(1e9), word(1e9)), "none"}, row{vals(num(1, 1), word(1e9)), "{9 [1000000000]}"},
	)
	others(t, api.ADur, vals(num(2, 1), word(60)), count(), words())
	others(t, api.ADur, vals(word(2), word(60)), count(), words())
}

// P802: ASum at its bounds.
func TestSum(t *testing.T) {
	rows(t, api.ASum,
		row{vals(dur(5), dur(6)), "{9 [11]}"}, row{vals(dur(0), dur(0)), "{9 [0]}"}, row{vals(dur(longest), dur(0)), "{9 [9007199254740991]}"}, row{vals(dur(longest-1), dur(1)), "{9 [9007199254740991]}"}, row{vals(dur(longest), dur(1)), "none"}, row{vals(dur(1), dur(longest)), "none"}, row{vals(dur(longest), dur(longest)), "none"},
	)
	others(t, api.ASum, vals(dur(5), dur(6)), []int{api.VDur}, []int{api.VDur})
}

// P802: ASpan, its days the other way about, too.
func TestSpan(t *testing.T) {
	rows(t, api.ASpan,
		row{vals(date(2024, 2, 28), date(2024, 2, 29)), "{10 [2024 2 28 2024 2 29]}"}, row{vals(date(2024, 2, 29), date(2024, 2, 28)), "none"}, row{vals(date(2024, 2, 29), date(2024, 2, 29)), "{10 [2024 2 29 2024 2 29]}"},
		row{vals(date(2023, 12, 31), date(2024, 1, 1)), "{10 [2023 12 31 2024 1 1]}"}, row{vals(date(2024, 1, 1), date(2023, 12, 31)), "none"}, row{vals(date(1, 1, 1), date(9999, 12, 31)), "{10 [1 1 1 9999 12 31]}"},
	)
	others(t, api.ASpan, vals(date(2024, 2, 28), date(2024, 3, 1)), []int{api.VDate}, []int{api.VDate})
}

// P802: children are those at P's places, in P's order, one of them twice, too;
// what stands elsewhere does not count.
func TestPlaces(t *testing.T) {
	l := vals(num(29, 2), val(api.VMark), word(2), val(api.VMark), num(2024, 4), dur(21))
	for _, x := range []struct {
		a    api.Act
		want string
	}{
		{api.Act{Op: api.ADate, P: []int{4, 2, 0}}, "{4 [2024 2 29]}"},
		{api.Act{Op: api.ADate, P: []int{4, 2, 2}}, "none"},
		{api.Act{Op: api.ADate, P: []int{4, 1, 0}}, "none"},
		{api.Act{Op: api.AThis, P: []int{2, 0}}, "{4 [2024 2 29]}"},
		{api.Act{Op: api.AThis, P: []int{0, 2}}, "none"},
		{api.Act{Op: api.APick, P: []int{3}}, "{3 []}"},
		{api.Act{Op: api.APick, P: []int{5}}, "{9 [21]}"},
		{api.Act{Op: api.ASum, P: []int{5, 5}}, "{9 [42]}"},
		{api.Act{Op: api.ATime, P: []int{0, 0, 0}}, "none"},
		{api.Act{Op: api.APoint, P: []int{0, 0}}, "{7 [2929 2]}"},
		{api.Act{Op: api.ADur, P: []int{2, 2}}, "{9 [4]}"},
	} {
		if v, is := act.Do(x.a, l, leap()); text(v, is) != x.want {
			t.Errorf("P802: %v: %s, not %s", x.a, text(v, is), x.want)
		}
	}
}

// pool holds values that may be handed in, most of them at an edge.
func pool() []api.Value {
	return vals(
		num(0, 1), num(1, 1), num(9, 1), num(12, 2), num(13, 2), num(24, 2), num(29, 2), num(59, 2), num(60, 2), num(74, 2), num(99, 2), num(0, 3), num(7, 3), num(234, 3), num(2024, 4), num(9999, 4), num(10000, 5), num(1e6, 7), num(1e6+1, 7), num(longest, 16), num(longest+1, 16), num(most, 18), num(0, 18),
		word(-1e9), word(-1e6-1), word(-1e6), word(-1), word(0), word(1), word(2), word(3), word(4), word(5), word(6), word(7), word(12), word(60), word(1e6), word(1e6+1), word(1e9),
		val(api.VMark), date(1, 1, 1), date(2024, 2, 28), date(2024, 2, 29), date(9999, 12, 31), val(api.VTime, 0, 0, 0), val(api.VTime, 23, 59, 59), val(api.VMoment, 2024, 2, 29, 9, 30, 15),
		number(0, 0), number(15, 1), number(-15, 1), number(1, 18), number(most, 0), number(-most, 18), number(most/10, 0), number(10, 0),
		val(api.VMoney, 2, 150), dur(0), dur(1), dur(longest), dur(longest/2+1), val(api.VSpan, 2024, 2, 28, 2024, 2, 29),
	)
}

// check holds what Do answers against the words.
func check(t *testing.T, op int, l []api.Value, ref api.Moment) {
	if got, want := made(t, op, l, ref), meant(op, l, ref); got != want {
		t.Fatalf("P802: op %d of %v from %v: %s, not %s", op, l, ref, got, want)
	}
}

// P802: each action, of each value, of each two, of each three.
func TestAll(t *testing.T) {
	list := pool()
	refs := []api.Moment{leap(), day(1, 1, 31), day(9999, 12, 31), day(1999, 12, 31)}
	for op := api.APick; op <= api.ASpan; op++ {
		lengths := map[int]bool{}
		for _, row := range letters(op) {
			lengths[len(row)] = true
		}
		for _, a := range list {
			for _, ref := range refs {
				if lengths[1] {
					check(t, op, vals(a), ref)
				}
			}
			for _, b := range list {
				for _, ref := range refs {
					if lengths[2] {
						check(t, op, vals(a, b), ref)
					}
				}
				for at, c := range list {
					if lengths[3] && !testing.Short() {
						check(t, op, vals(a, b, c), refs[at%len(refs)])
					}
				}
			}
		}
	}
}

// P802: numbers and words of all sizes, by chance.
func TestByChance(t *testing.T) {
	by := rand.New(rand.NewSource(8))
	near := []int{0, 1, 12, 60, 100, 1000, 10000, 1e6, 1e9, longest, most}
	pick := func() int { return max(0, min(most, near[by.Intn(len(near))]+by.Intn(3)-1)) }
	child := func(letter rune) api.Value {
		switch letter {
		case 'w':
			return word((by.Intn(2)*2 - 1) * min(1e9, by.Intn(2)*pick()+by.Intn(7)))
		case 'c':
			return []api.Value{num(by.Intn(1e6+2), 7), word(by.Intn(2e6+3) - 1e6 - 1), num(by.Intn(13), 2)}[by.Intn(3)]
		case 'd':
			at := time.Date(1+by.Intn(9999), 1, 1+by.Intn(365), 0, 0, 0, 0, time.UTC)
			return date(at.Year(), int(at.Month()), at.Day())
		case 't':
			return val(api.VTime, by.Intn(24), by.Intn(60), by.Intn(60))
		case 'D':
			m, scale := pick()*(by.Intn(2)*2-1), by.Intn(19)
			for scale > 0 && m%10 == 0 {
				m, scale = m/10, scale-1
			}
			return number(m, scale)
		case 'u':
			return dur(by.Intn(longest))
		}
		n := []int{pick(), by.Intn(61), by.Intn(1000)}[by.Intn(3)]
		return num(n, min(18, len(fmt.Sprint(n))+by.Intn(3)))
	}
	for range 300_000 {
		op := by.Intn(16)
		rows := letters(op)
		var l []api.Value
		for _, letter := range rows[by.Intn(len(rows))] {
			l = append(l, child(letter))
		}
		check(t, op, l, day(1+by.Intn(9999), 1+by.Intn(12), 1+by.Intn(28)))
	}
}

// P802: groups of digits, by chance: all rows of up to six.
func TestGroupsByChance(t *testing.T) {
	by := rand.New(rand.NewSource(10))
	for range 50_000 {
		var l []api.Value
		for at := range 1 + by.Intn(6) {
			digits := 3
			if at == 0 || by.Intn(12) == 0 {
				digits = 1 + by.Intn(4)
			}
			l = append(l, num(by.Intn([]int{10, 100, 1000, 10000}[digits-1]), digits))
		}
		check(t, api.AGroup, l, leap())
	}
}
