package act_test

import (
	"fmt"
	"math"
	"math/rand"
	"testing"

	"interlocutor/act"
	"interlocutor/api"
)

// P801: Sign of a number: its value, how many digits.
func TestSignNumber(t *testing.T) {
	for _, x := range [][2]int{{0, 1}, {7, 1}, {7, 3}, {0, 18}, {2024, 4}, {most, 18}} {
		got := act.Sign(api.Tok{From: 3, To: 9, Class: api.CNumber, Value: x[0], Len: x[1]})
		if text(got, true) != text(num(x[0], x[1]), true) {
			t.Errorf("P801: Sign of %d, of %d digits: %v", x[0], x[1], got)
		}
	}
}

// P801: Sign of a word of each class: its value alone.
func TestSignWord(t *testing.T) {
	for class := 1; class <= 49; class++ {
		for _, n := range []int{-1e9, -1, 0, 1, class, 1e9} {
			got := act.Sign(api.Tok{From: 1, To: 2, Class: class, Value: n, Len: 4})
			if text(got, true) != text(word(n), true) {
				t.Errorf("P801: Sign of class %d, %d: %v", class, n, got)
			}
		}
	}
}

// P801: Sign of each mark: nothing in it.
func TestSignMark(t *testing.T) {
	for class := 50; class <= 60; class++ {
		got := act.Sign(api.Tok{From: 1, To: 2, Class: class, Value: 5, Len: 6})
		if got.Kind != api.VMark || len(got.F) > 0 {
			t.Errorf("P801: Sign of class %d: %v", class, got)
		}
	}
}

// P8, P9: of what is no class nothing is told.
func TestSignWrong(t *testing.T) {
	for _, class := range []int{-1, -50, 61, 100, math.MinInt, math.MaxInt} {
		if got := act.Sign(api.Tok{Class: class, Value: 5, Len: 1}); got.Kind != 0 || len(got.F) > 0 {
			t.Errorf("P9: Sign of class %d: %v", class, got)
		}
	}
}

// some is a right value of each kind that may be Right.
func some() []api.Value {
	return vals(date(2024, 2, 29), val(api.VTime, 9, 30, 15), val(api.VMoment, 2024, 2, 29, 9, 30, 15),
		number(15, 1), val(api.VMoney, 2, 150), dur(90), val(api.VSpan, 2024, 2, 28, 2024, 2, 29))
}

// P801: Right of nothing (the example), of signs, of kinds that are none.
func TestRightKind(t *testing.T) {
	if act.Right(api.Value{}) {
		t.Error("P801: Right of nothing")
	}
	for _, v := range vals(num(1, 1), num(2024, 4), word(1), val(api.VMark), val(api.VMark, 1)) {
		if act.Right(v) {
			t.Errorf("P801: Right of the sign %v", v)
		}
	}
	for _, v := range some() {
		for _, kind := range []int{math.MinInt, -10, -4, -1, 0, 1, 2, 3, 11, 12, 20, math.MaxInt} {
			if act.Right(val(kind, v.F...)) {
				t.Errorf("P801: Right of kind %d, %v", kind, v.F)
			}
		}
	}
}

// P801: Right of each kind with as many F as it has, one fewer, one more, none.
func TestRightCount(t *testing.T) {
	for _, v := range some() {
		if !act.Right(v) {
			t.Errorf("P801: not Right: %v", v)
		}
		for n := range v.F {
			if act.Right(val(v.Kind, v.F[:n]...)) {
				t.Errorf("P801: Right of %v with %d alone", v, n)
			}
		}
		for n := 1; n <= 6; n++ {
			if act.Right(val(v.Kind, append(append([]int{}, v.F...), make([]int, n)...)...)) {
				t.Errorf("P801: Right of %v with %d more", v, n)
			}
		}
	}
}

// rightIs checks Right by hand, and that the words meant so.
func rightIs(t *testing.T, want bool, kind int, f ...int) {
	t.Helper()
	v := val(kind, f...)
	if act.Right(v) != want {
		t.Errorf("P801: Right of %v: %v", v, !want)
	}
	if meantRight(v) != want {
		t.Errorf("%v is meant otherwise", v)
	}
}

// P801: days that the calendar has, and has not; years at their bounds.
func TestRightDay(t *testing.T) {
	for _, x := range []struct {
		y, m, d int
		is      bool
	}{
		{2024, 2, 29, true}, {2023, 2, 29, false}, {2000, 2, 29, true}, {1900, 2, 29, false}, {2024, 2, 30, false},
		{2024, 4, 30, true}, {2024, 4, 31, false}, {2024, 12, 31, true}, {2024, 12, 32, false}, {2024, 1, 0, false},
		{2024, 0, 1, false}, {2024, 13, 1, false}, {2024, -1, 1, false}, {2024, 1, -1, false},
		{-1, 1, 1, false}, {0, 1, 1, false}, {0, 12, 31, false}, {1, 1, 1, true}, {9999, 12, 31, true}, {10000, 1, 1, false},
		{math.MinInt, 1, 1, false}, {math.MaxInt, 1, 1, false}, {2024, math.MaxInt, 1, false}, {2024, 1, math.MinInt, false},
	} {
		rightIs(t, x.is, api.VDate, x.y, x.m, x.d)
		rightIs(t, x.is, api.VMoment, x.y, x.m, x.d, 0, 0, 0)
		rightIs(t, x.is, api.VSpan, x.y, x.m, x.d, 9999, 12, 31)
		rightIs(t, x.is, api.VSpan, 1, 1, 1, x.y, x.m, x.d)
	}
}

// P801: hours, minutes, seconds at their bounds and beyond.
func TestRightTime(t *testing.T) {
	for _, x := range []struct {
		h, i, s int
		is      bool
	}{
		{0, 0, 0, true}, {23, 59, 59, true}, {23, 0, 0, true}, {24, 0, 0, false}, {-1, 0, 0, false},
		{0, 59, 0, true}, {0, 60, 0, false}, {0, -1, 0, false}, {0, 0, 59, true}, {0, 0, 60, false}, {0, 0, -1, false},
		{math.MaxInt, 0, 0, false}, {0, math.MinInt, 0, false}, {0, 0, math.MaxInt, false},
	} {
		rightIs(t, x.is, api.VTime, x.h, x.i, x.s)
		rightIs(t, x.is, api.VMoment, 2024, 2, 29, x.h, x.i, x.s)
	}
}

// P801: decimals within their bounds and beyond, normed and not.
func TestRightDecimal(t *testing.T) {
	for _, x := range []struct {
		m, scale int
		is       bool
	}{
		{0, 0, true}, {0, 1, false}, {0, 18, false}, {15, 1, true}, {-15, 1, true}, {150, 2, false}, {-150, 2, false},
		{150, 0, true}, {10, 0, true}, {10, 1, false}, {-10, 1, false}, {1, 18, true}, {1, 19, false}, {1, -1, false}, {0, -1, false},
		{most, 0, true}, {most, 18, true}, {most, 19, false}, {-most, 0, true}, {-most, 18, true},
		{most + 1, 0, false}, {most + 2, 1, false}, {-most - 1, 0, false}, {-most - 2, 18, false},
		{math.MaxInt, 0, false}, {math.MinInt, 0, false}, {1, math.MaxInt, false}, {1, math.MinInt, false},
	} {
		rightIs(t, x.is, api.VDec, x.m, x.scale)
	}
}

// P801: money at both bounds, and its currency.
func TestRightMoney(t *testing.T) {
	for _, x := range []struct {
		c, n int
		is   bool
	}{
		{0, 0, true}, {-1, 0, false}, {1, 0, true}, {1e9, 0, true}, {1e9 + 1, 0, false},
		{0, most, true}, {0, most + 1, false}, {0, -most, true}, {0, -most - 1, false}, {1e9, -most, true}, {2, 150, true}, {2, -150, true},
		{math.MaxInt, 0, false}, {math.MinInt, 0, false}, {0, math.MaxInt, false}, {0, math.MinInt, false},
	} {
		rightIs(t, x.is, api.VMoney, x.c, x.n)
	}
}

// P801: durations at their bounds.
func TestRightDuration(t *testing.T) {
	for n, is := range map[int]bool{-1: false, 0: true, 1: true, longest - 1: true, longest: true, longest + 1: false, math.MaxInt: false, math.MinInt: false} {
		rightIs(t, is, api.VDur, n)
	}
}

// P801: spans of one day, of a day and one behind or ahead of it.
func TestRightSpan(t *testing.T) {
	for _, x := range []struct {
		f  []int
		is bool
	}{
		{[]int{2024, 2, 29, 2024, 2, 29}, true}, {[]int{2024, 2, 28, 2024, 2, 29}, true}, {[]int{2024, 2, 29, 2024, 2, 28}, false},
		{[]int{2024, 1, 31, 2024, 2, 1}, true}, {[]int{2024, 2, 1, 2024, 1, 31}, false},
		{[]int{2023, 12, 31, 2024, 1, 1}, true}, {[]int{2024, 1, 1, 2023, 12, 31}, false},
		{[]int{1, 1, 1, 9999, 12, 31}, true}, {[]int{9999, 12, 31, 1, 1, 1}, false}, {[]int{1, 1, 1, 1, 1, 1}, true}, {[]int{9999, 12, 31, 9999, 12, 31}, true},
	} {
		rightIs(t, x.is, api.VSpan, x.f...)
	}
}

// edges holds numbers that are at a bound of some kind.
func edges() []int {
	return []int{-most - 1, -most, -10, -1, 0, 1, 2, 10, 12, 13, 18, 19, 23, 24, 28, 29, 30, 31, 32, 59, 60, 100, 2023, 2024, 9999, 10000, 1e9, 1e9 + 1, longest, longest + 1, most, most + 1}
}

// P801: Right of all pairs of edges, and of longer lists by chance, against the
// words.
func TestRightAll(t *testing.T) {
	list := edges()
	check := func(v api.Value) {
		if got := act.Right(v); got != meantRight(v) {
			t.Fatalf("P801: Right of %v: %v", v, got)
		}
	}
	for kind := -1; kind <= 12; kind++ {
		check(val(kind))
		for _, a := range list {
			check(val(kind, a))
			for _, b := range list {
				check(val(kind, a, b))
				for _, c := range list {
					check(val(kind, a, b, c))
				}
			}
		}
	}
	by := rand.New(rand.NewSource(1))
	small := [][]int{{0, 1, 2023, 2024, 9999}, {1, 2, 12}, {1, 28, 29, 31}}
	for range 200_000 {
		f := []int{}
		for i := range 6 {
			from := small[i%3]
			if by.Intn(20) == 0 {
				from = list
			}
			f = append(f, from[by.Intn(len(from))])
		}
		check(val(api.VMoment, f...))
		check(val(api.VSpan, f...))
	}
}

// P801: Year by hand.
func TestYear(t *testing.T) {
	for _, x := range []struct {
		v    api.Value
		ref  int
		want int
		is   bool
	}{
		{num(5, 1), 2024, 2005, true}, {num(0, 1), 2024, 2000, true}, {num(9, 1), 2024, 2009, true}, {num(9, 1), 1980, 2009, true},
		{num(24, 2), 2024, 2024, true}, {num(73, 2), 2024, 2073, true}, {num(74, 2), 2024, 1974, true}, {num(75, 2), 2024, 1975, true}, {num(72, 2), 2024, 2072, true},
		{num(0, 2), 2024, 2000, true}, {num(99, 2), 2024, 1999, true}, {num(49, 2), 2000, 2049, true}, {num(50, 2), 2000, 1950, true}, {num(0, 2), 1950, 1900, true}, {num(99, 2), 1950, 1999, true},
		{num(5, 3), 2024, 5, true}, {num(24, 3), 2024, 24, true}, {num(99, 18), 2024, 99, true}, {num(123, 3), 2024, 123, true}, {num(2024, 4), 1, 2024, true}, {num(1, 4), 2024, 1, true}, {num(2024, 7), 2024, 2024, true},
		{num(0, 3), 2024, 0, false}, {num(0, 4), 2024, 0, false}, {num(9999, 4), 2024, 9999, true}, {num(10000, 5), 2024, 0, false}, {num(most, 18), 2024, 0, false},
		{num(59, 2), 10, 59, true}, {num(60, 2), 10, 0, false}, {num(99, 2), 10, 0, false}, {num(0, 2), 10, 0, false}, {num(1, 2), 10, 1, true}, {num(0, 1), 1, 0, false}, {num(1, 1), 1, 1, true}, {num(50, 2), 1, 50, true}, {num(51, 2), 1, 0, false},
		{num(99, 2), 49, 0, false}, {num(98, 2), 49, 98, true}, {num(99, 2), 50, 99, true}, {num(0, 2), 50, 0, false}, {num(1, 2), 51, 1, true}, {num(0, 2), 51, 100, true},
		{num(0, 2), 9999, 0, false}, {num(48, 2), 9999, 0, false}, {num(49, 2), 9999, 9949, true}, {num(99, 2), 9999, 9999, true}, {num(0, 2), 9950, 9900, true}, {num(99, 2), 9950, 9999, true}, {num(0, 2), 9951, 0, false},
		{word(24), 2024, 0, false}, {word(2024), 2024, 0, false}, {val(api.VMark), 2024, 0, false}, {date(2024, 1, 1), 2024, 0, false}, {number(2024, 0), 2024, 0, false}, {dur(2024), 2024, 0, false}, {val(api.VMoney, 2024, 4), 2024, 0, false}, {api.Value{}, 2024, 0, false}, {val(11, 2024, 4), 2024, 0, false},
	} {
		if got, is := act.Year(x.v, day(x.ref, 1, 1)); got != x.want || is != x.is {
			t.Errorf("P801: Year of %v from %d: %d, %v", x.v, x.ref, got, is)
		}
	}
}

// P801: Year of all numbers of one and two digits, from each year, against the
// words.
func TestYearAll(t *testing.T) {
	for ref := 1; ref <= 9999; ref++ {
		if ref > 210 && ref < 1890 || ref > 2110 && ref < 9790 {
			continue
		}
		for n := range 100 {
			for digits := 1; digits <= 3; digits++ {
				if digits == 1 && n > 9 {
					continue
				}
				v := num(n, digits)
				want, right := meantYear(v, ref)
				if got, is := act.Year(v, day(ref, 12, 31)); got != want || is != right {
					t.Fatalf("P801: Year of %v from %d: %d, %v", v, ref, got, is)
				}
			}
		}
	}
}

// P801: Year of no more than ref's year: the rest of the moment does not count.
func TestYearOfAnyMoment(t *testing.T) {
	for _, ref := range []api.Moment{day(2024, 1, 1), day(2024, 12, 31), {Y: 2024, M: 6, D: 30}, {Y: 2024, M: 2, D: 29, H: 23, I: 59, S: 59}} {
		if got, is := act.Year(num(74, 2), ref); got != 1974 || !is {
			t.Errorf("P801: Year from %v: %d, %v", ref, got, is)
		}
	}
}

// P1, P8, P9: numbers that no sign is are refused, moments that are none do no harm.
func TestYearWrong(t *testing.T) {
	for _, v := range vals(val(api.VNumber), val(api.VNumber, 24), val(api.VNumber, 24, 2, 0), num(-1, 1), num(-1, 2), num(100, 2), num(2024, 2), num(-5, 4), num(math.MinInt, 1), num(math.MaxInt, 2), num(math.MinInt, 3), num(math.MaxInt, math.MaxInt)) {
		if got, is := act.Year(v, leap()); got != 0 || is {
			t.Errorf("P9: Year of %v: %d, %v", v, got, is)
		}
	}
	for _, y := range []int{math.MinInt, math.MinInt + 49, math.MinInt + 50, -10000, -51, 0, 10050, 20000, math.MaxInt - 49, math.MaxInt} {
		for _, v := range vals(num(0, 1), num(24, 2), num(99, 2)) {
			if got, is := act.Year(v, api.Moment{Y: y}); is != (got >= 1 && got <= 9999) || !is && got != 0 {
				t.Errorf("P9: Year of %v from %s: %d, %v", v, fmt.Sprint(y), got, is)
			}
		}
	}
}
