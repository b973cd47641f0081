package act_test

import (
	"fmt"
	"math/big"
	"slices"
	"strings"
	"testing"
	"time"

	"interlocutor/act"
	"interlocutor/api"
)

const (
	most    = 1_000_000_000_000_000_000 - 1 // a decimal's digits, money's least units
	longest = 1<<53 - 1                     // a duration
)

// val is a value, num one of a number, word one of a word.
func val(kind int, f ...int) api.Value { return api.Value{Kind: kind, F: f} }

func num(n, digits int) api.Value { return val(api.VNumber, n, digits) }

func word(n int) api.Value { return val(api.VWord, n) }

func date(y, m, d int) api.Value { return val(api.VDate, y, m, d) }

func number(m, scale int) api.Value { return val(api.VDec, m, scale) }

func dur(seconds int) api.Value { return val(api.VDur, seconds) }

// vals is a list of values.
func vals(l ...api.Value) []api.Value { return l }

// day is a moment of that day.
func day(y, m, d int) api.Moment { return api.Moment{Y: y, M: m, D: d, H: 23, I: 59, S: 58} }

// leap is what most is asked from.
func leap() api.Moment { return day(2024, 2, 29) }

// all is an action of so many children, one behind the other.
func all(op, n int) api.Act {
	a := api.Act{Op: op}
	for p := range n {
		a.P = append(a.P, p)
	}
	return a
}

// text is a value as it is told, or none.
func text(v api.Value, is bool) string {
	if !is {
		return "none"
	}
	return fmt.Sprint(v)
}

// made is what Do answers of all of these.
func made(t *testing.T, op int, l []api.Value, ref api.Moment) string {
	t.Helper()
	v, is := act.Do(all(op, len(l)), l, ref)
	if !is && (v.Kind != 0 || len(v.F) > 0) {
		t.Fatalf("P4: op %d of %v: %v beside false", op, l, v)
	}
	return text(v, is)
}

// makes checks that Do answers that.
func makes(t *testing.T, op int, l []api.Value, ref api.Moment, want string) {
	t.Helper()
	if got := made(t, op, l, ref); got != want {
		t.Errorf("P802: op %d of %v from %v: %s, not %s", op, l, ref, got, want)
	}
}

// isDay tells whether the library's calendar has that day, in a year that a value
// may have.
func isDay(y, m, d int) bool {
	if y < 1 || y > 9999 || m < 1 || m > 12 || d < 1 || d > 31 {
		return false
	}
	_, month, same := time.Date(y, time.Month(m), d, 0, 0, 0, 0, time.UTC).Date()
	return int(month) == m && same == d
}

func isTime(h, i, s int) bool {
	return h >= 0 && h < 24 && i >= 0 && i < 60 && s >= 0 && s < 60
}

// inDigits tells whether n has 18 digits at most.
func inDigits(n int) bool { return len(strings.TrimPrefix(fmt.Sprint(n), "-")) <= 18 }

// counts tells how many F a value of each kind has.
func counts() map[int]int {
	return map[int]int{
		api.VNumber: 2, api.VWord: 1, api.VMark: 0, api.VDate: 3, api.VTime: 3,
		api.VMoment: 6, api.VDec: 2, api.VMoney: 2, api.VDur: 1, api.VSpan: 6,
	}
}

// meantRight is what Right should answer, by the words of P801.
func meantRight(v api.Value) bool {
	n, known := counts()[v.Kind]
	if !known || len(v.F) != n {
		return false
	}
	f := append(slices.Clone(v.F), 0, 0, 0, 0, 0, 0)
	switch v.Kind {
	case api.VDate:
		return isDay(f[0], f[1], f[2])
	case api.VTime:
		return isTime(f[0], f[1], f[2])
	case api.VMoment:
		return isDay(f[0], f[1], f[2]) && isTime(f[3], f[4], f[5])
	case api.VDec:
		return inDigits(f[0]) && f[1] >= 0 && f[1] <= 18 && (f[1] == 0 || f[0]%10 != 0)
	case api.VMoney:
		return f[0] >= 0 && f[0] <= 1e9 && inDigits(f[1])
	case api.VDur:
		return f[0] >= 0 && f[0] < 1<<53
	case api.VSpan:
		return isDay(f[0], f[1], f[2]) && isDay(f[3], f[4], f[5]) &&
			fmt.Sprintf("%04d%02d%02d", f[0], f[1], f[2]) <= fmt.Sprintf("%04d%02d%02d", f[3], f[4], f[5])
	}
	return false
}

// meantYear is what Year should answer, by the words of P801: it goes through the
// years.
func meantYear(n api.Value, ref int) (int, bool) {
	if n.Kind != api.VNumber {
		return 0, false
	}
	is := n.F[0]
	if n.F[1] == 1 || n.F[1] == 2 {
		for year := ref - 50; year <= ref+49; year++ {
			rest := year % 100
			if rest < 0 {
				rest += 100
			}
			if rest == n.F[0] {
				is = year
			}
		}
	}
	if is < 1 || is > 9999 {
		return 0, false
	}
	return is, true
}

// letters are the kinds of what an action asks for: n a number, c a count, w a
// word, d a date, t a time, D a decimal, u a duration, x anything.
func letters(op int) []string {
	return map[int][]string{
		api.APick: {"x"}, api.ADate: {"ncn"}, api.AThis: {"cn"}, api.ATime: {"nn", "nnn"},
		api.AHalf: {"nw", "nnw"}, api.AMoment: {"dt"}, api.ARel: {"cww"}, api.ANext: {"w"},
		api.AWhole: {"n"}, api.APoint: {"nn"}, api.AGroup: {"n", "nn", "nnn", "nnnn", "nnnnn", "nnnnnn"},
		api.ANeg: {"D"}, api.AMoney: {"wD"}, api.ADur: {"cw"}, api.ASum: {"uu"}, api.ASpan: {"dd"},
	}[op]
}

// fits tells whether a value is of a kind that a letter stands for.
func fits(letter rune, v api.Value) bool {
	switch letter {
	case 'n':
		return v.Kind == api.VNumber
	case 'c':
		return v.Kind == api.VNumber || v.Kind == api.VWord
	case 'w':
		return v.Kind == api.VWord
	case 'd':
		return v.Kind == api.VDate
	case 't':
		return v.Kind == api.VTime
	case 'D':
		return v.Kind == api.VDec
	case 'u':
		return v.Kind == api.VDur
	}
	return true
}

// fitAll tells whether values are of the kinds that an action asks for.
func fitAll(op int, l []api.Value) bool {
	return slices.ContainsFunc(letters(op), func(row string) bool {
		if len(row) != len(l) {
			return false
		}
		for i, letter := range row {
			if !fits(letter, l[i]) {
				return false
			}
		}
		return true
	})
}

// meant is what Do should answer of values that may be handed in, by the words of
// P802.
func meant(op int, l []api.Value, ref api.Moment) string {
	if !fitAll(op, l) {
		return "none"
	}
	if op == api.APick {
		return text(l[0], true)
	}
	v, is := meantOf(op, l, ref)
	return text(v, is && meantRight(v))
}

// meantOf is the table of P802, of children that are of its kinds.
func meantOf(op int, l []api.Value, ref api.Moment) (api.Value, bool) {
	f := make([][]int, 6)
	for i, v := range l {
		f[i] = v.F
	}
	switch op {
	case api.ADate:
		year, is := meantYear(l[0], ref.Y)
		return date(year, f[1][0], f[2][0]), is
	case api.AThis:
		return date(ref.Y, f[0][0], f[1][0]), true
	case api.ATime:
		return val(api.VTime, f[0][0], f[1][0], append(f[2], 0)[0]), true
	case api.AHalf:
		return meantHalf(l)
	case api.AMoment:
		return val(api.VMoment, slices.Concat(f[0], f[1])...), true
	case api.ARel:
		return meantRel(f[0][0], f[1][0], f[2][0], ref)
	case api.ANext:
		return meantNext(f[0][0], ref)
	case api.ASpan:
		return val(api.VSpan, slices.Concat(f[0], f[1])...), true
	}
	return meantAmount(op, l)
}

// meantHalf finds the time on a dial that is written out.
func meantHalf(l []api.Value) (api.Value, bool) {
	dial := [][]int{{12, 1, 2, 3, 4, 5, 6, 7, 8, 9, 10, 11}, {12, 1, 2, 3, 4, 5, 6, 7, 8, 9, 10, 11}}
	half, minute := l[len(l)-1].F[0], 0
	if len(l) == 3 {
		minute = l[1].F[0]
	}
	if half != 0 && half != 1 {
		return api.Value{}, false
	}
	at := slices.Index(dial[half], l[0].F[0])
	return val(api.VTime, 12*half+at, minute, 0), at >= 0
}

// meantRel goes by the library's calendar; civil.Add goes no farther than 10^6
// months.
func meantRel(n, unit, sign int, ref api.Moment) (api.Value, bool) {
	if n < -1e6 || n > 1e6 || unit < 1 || unit > 4 || sign != 1 && sign != -1 {
		return api.Value{}, false
	}
	days := []int{0, n * sign, 7 * n * sign, 0, 0}[unit]
	months := []int{0, 0, 0, n * sign, 12 * n * sign}[unit]
	if months < -1e6 || months > 1e6 {
		return api.Value{}, false
	}
	last := time.Date(ref.Y, time.Month(ref.M+months+1), 0, 0, 0, 0, 0, time.UTC).Day()
	y, m, d := time.Date(ref.Y, time.Month(ref.M+months), min(ref.D, last), 0, 0, 0, 0, time.UTC).AddDate(0, 0, days).Date()
	return date(y, int(m), d), true
}

// meantNext goes a day on till it is there.
func meantNext(weekday int, ref api.Moment) (api.Value, bool) {
	if weekday < 0 || weekday > 6 {
		return api.Value{}, false
	}
	at := time.Date(ref.Y, time.Month(ref.M), ref.D+1, 0, 0, 0, 0, time.UTC)
	for (int(at.Weekday())+6)%7 != weekday {
		at = at.AddDate(0, 0, 1)
	}
	y, m, d := at.Date()
	return date(y, int(m), d), true
}

// meantAmount is the table's rows of decimals, money and durations, by numbers of
// any size.
func meantAmount(op int, l []api.Value) (api.Value, bool) {
	a, b := l[0].F, l[len(l)-1].F
	switch op {
	case api.AWhole:
		return number(a[0], 0), true
	case api.APoint:
		return meantPoint(a[0], b[0], b[1])
	case api.AGroup:
		return meantGroup(l)
	case api.ANeg:
		return number(-a[0], a[1]), true
	case api.AMoney:
		return meantMoney(a[0], b[0], b[1])
	case api.ADur:
		product := new(big.Int).Mul(big.NewInt(int64(a[0])), big.NewInt(int64(b[0])))
		is := a[0] >= 0 && b[0] >= 1 && product.IsInt64()
		return dur(int(product.Int64())), is
	case api.ASum:
		return dur(a[0] + b[0]), true
	}
	return api.Value{}, false
}

// meantPoint writes the digits, and takes noughts away from their end.
func meantPoint(whole, part, digits int) (api.Value, bool) {
	text := fmt.Sprintf("%d%0*d", whole, digits, part)
	if len(strings.TrimLeft(text, "0")) > 18 {
		return api.Value{}, false
	}
	for digits > 0 && strings.HasSuffix(text, "0") {
		text, digits = text[:len(text)-1], digits-1
	}
	m := 0
	fmt.Sscanf(text, "%d", &m)
	return number(m, digits), true
}

// meantGroup writes the groups behind each other.
func meantGroup(l []api.Value) (api.Value, bool) {
	text := ""
	for i, v := range l {
		if i == 0 && v.F[1] > 3 || i > 0 && v.F[1] != 3 {
			return api.Value{}, false
		}
		text += fmt.Sprintf("%0*d", v.F[1], v.F[0])
	}
	m, is := new(big.Int).SetString(text, 10)
	return number(int(m.Int64()), 0), is && len(text) <= 18
}

func meantMoney(currency, m, scale int) (api.Value, bool) {
	if currency < 0 {
		return api.Value{}, false
	}
	ten := func(n int) *big.Int { return new(big.Int).Exp(big.NewInt(10), big.NewInt(int64(n)), nil) }
	units := new(big.Rat).SetFrac(new(big.Int).Mul(big.NewInt(int64(m)), ten(currency%10)), ten(scale))
	is := units.IsInt() && new(big.Int).Abs(units.Num()).Cmp(ten(18)) < 0
	return val(api.VMoney, currency, int(units.Num().Int64())), is
}
