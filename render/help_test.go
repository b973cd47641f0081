package render_test

import (
	"fmt"
	"math"
	"math/big"
	"slices"
	"strings"
	"testing"

	"interlocutor/act"
	"interlocutor/api"
	"interlocutor/render"
)

const (
	most    = 1_000_000_000_000_000_000 - 1 // a decimal's digits, money's least units
	longest = 1<<53 - 1                     // a duration
)

// value is a value; number, word, text are parts of a style.
func value(kind int, f ...int) api.Value { return api.Value{Kind: kind, F: f} }

func number(field, width int) api.Part {
	return api.Part{Kind: api.PNumber, Field: field, Width: width}
}

func word(field, class int) api.Part {
	return api.Part{Kind: api.PWord, Field: field, Class: class}
}

func text(s string) api.Part { return api.Part{Kind: api.PText, Text: s} }

func style(kind int, parts ...api.Part) api.Style { return api.Style{Kind: kind, Parts: parts} }

func entry(class, value int, s string) api.Entry {
	return api.Entry{Text: s, Class: class, Value: value}
}

// words are some: of a class and a number two entries, one, or none.
func words() []api.Entry {
	return []api.Entry{entry(2, 1, "other"), entry(1, 0, "null"), entry(1, 1, "one"), entry(1, 2, "two"), entry(1, 1, "uno"), entry(2, 7, "seven"), entry(1, -1, "less"), entry(2, -2, "lesser"), entry(3, 2024, "this year"), entry(1, 0, "nought"), entry(4, 500, "jpy"), entry(49, 9999, "last")}
}

// language is one of these styles.
func language(digits int, styles ...api.Style) api.Locale {
	return api.Locale{Id: "en", Parent: -1, Digits: digits, Lex: words(), Styles: styles}
}

// extremes are numbers at the bounds of what there is, rising.
func extremes() []int {
	return []int{math.MinInt, math.MinInt + 1, -1, 0, 1, math.MaxInt - 1, math.MaxInt}
}

// told is what Write answers, and the error's word.
func told(l api.Locale, style int, v api.Value) string {
	s, e := render.Write(l, style, v)
	return s + " " + e.Error()
}

// writes checks what Write answers.
func writes(t *testing.T, l api.Locale, style int, v api.Value, want string) {
	t.Helper()
	if got := told(l, style, v); got != want {
		t.Errorf("P1101: %v in style %d of %v: %q, not %q", v, style, l.Styles, got, want)
	}
}

// expect checks what a value is in a style of its kind that has these parts.
func expect(t *testing.T, v api.Value, want string, parts ...api.Part) {
	t.Helper()
	writes(t, language(0, style(v.Kind, parts...)), 0, v, want)
}

// digitsOf are the digits of each system.
func digitsOf(system int) []string {
	return strings.Split([]string{"0123456789", "٠١٢٣٤٥٦٧٨٩", "۰۱۲۳۴۵۶۷۸۹", "०१२३४५६७८९"}[system], "")
}

// meantField reads the words of 'Fields' once more, by numbers of any size: what is
// ahead of the digits, these, the number.
func meantField(v api.Value, field, width int) (sign, digits string, n *big.Int, is bool) {
	several := func(list ...int) (string, string, *big.Int, bool) {
		if field < 0 || field >= len(list) {
			return "", "", nil, false
		}
		return "", fmt.Sprintf("%0*d", width, list[field]), big.NewInt(int64(list[field])), true
	}
	switch v.Kind {
	case api.VDec:
		return meantPiece(v.F[0], v.F[1], field, width, width)
	case api.VMoney:
		if field == 0 {
			return several(v.F...)
		}
		return meantPiece(v.F[1], v.F[0]%10, field-1, width, 0)
	case api.VDur:
		seconds := v.F[0]
		hours := seconds / 3600
		minutes := (seconds - hours*3600) / 60
		return several(seconds, hours, minutes, seconds-hours*3600-minutes*60)
	}
	return several(v.F...)
}

// meantPiece is what of m stands ahead of the last digits (field 0) and what they
// are (field 1), each filled up to its width.
func meantPiece(m, last, field, ahead, behind int) (sign, digits string, n *big.Int, is bool) {
	one := new(big.Int).Exp(big.NewInt(10), big.NewInt(int64(last)), nil)
	whole, rest := new(big.Int).QuoRem(big.NewInt(int64(m)), one, new(big.Int))
	switch field {
	case 0:
		if m < 0 {
			sign = "-"
		}
		digits = new(big.Int).Abs(whole).String()
		for len(digits) < ahead {
			digits = "0" + digits
		}
		return sign, digits, whole, true
	case 1:
		rest.Abs(rest)
		if last > 0 {
			digits = fmt.Sprintf("%0*d", last, rest)
		}
		for len(digits) < behind {
			digits += "0"
		}
		return "", digits, rest, true
	}
	return "", "", nil, false
}

// meant reads the words of Write once more, for languages that are right.
func meant(l api.Locale, style int, v api.Value) string {
	if !slices.Contains(render.Styles(l, v.Kind), style) {
		return " style"
	}
	if !act.Right(v) {
		return " range"
	}
	out := ""
	for _, p := range l.Styles[style].Parts {
		if p.Kind == api.PText {
			out += p.Text
			continue
		}
		sign, digits, n, is := meantField(v, p.Field, p.Width)
		if !is {
			return " style"
		}
		if p.Kind == api.PNumber {
			out += sign
			for _, d := range digits {
				out += digitsOf(l.Digits)[d-'0']
			}
			continue
		}
		found := false
		for _, e := range l.Lex {
			if !found && e.Class == p.Class && n.Cmp(big.NewInt(int64(e.Value))) == 0 {
				out += e.Text
				found = true
			}
		}
		if !found {
			return " style"
		}
	}
	if len(out) > 256 {
		return " range"
	}
	return out + " ok"
}

// amounts are numbers of decimals and of money, at and around the powers of ten.
func amounts() []int {
	list := []int{0, 7, 15, 77, 150, 205, 1234, 9876543210, 123456789012345678, 5 * (most/9 + 1)}
	for p := 1; p <= most; p *= 10 {
		list = append(list, p-1, p, p+1, 2*p)
		if p > most/10 {
			break
		}
	}
	list = append(list, most-1, most)
	for _, m := range slices.Clone(list) {
		list = append(list, -m)
	}
	slices.Sort(list)
	list = slices.Compact(list)
	return slices.DeleteFunc(list, func(m int) bool { return m < -most || m > most })
}

// pool are values of each kind that are right, many of them at their bounds.
func pool() []api.Value {
	list := []api.Value{
		value(api.VDate, 1, 1, 1), value(api.VDate, 9999, 12, 31), value(api.VDate, 2024, 2, 29), value(api.VDate, 2000, 2, 29), value(api.VDate, 305, 10, 7), value(api.VDate, 40, 1, 30),
		value(api.VTime, 0, 0, 0), value(api.VTime, 23, 59, 59), value(api.VTime, 9, 5, 30), value(api.VTime, 12, 0, 1),
		value(api.VMoment, 1, 1, 1, 0, 0, 0), value(api.VMoment, 9999, 12, 31, 23, 59, 59), value(api.VMoment, 2024, 2, 29, 9, 5, 30),
		value(api.VSpan, 1, 1, 1, 9999, 12, 31), value(api.VSpan, 2024, 2, 29, 2024, 2, 29), value(api.VSpan, 2024, 2, 28, 2024, 3, 1), value(api.VSpan, 800, 12, 25, 814, 1, 28),
	}
	for _, m := range amounts() {
		for scale := range 19 {
			list = append(list, value(api.VDec, m, scale))
		}
		for _, currency := range []int{0, 1, 2, 3, 5, 8, 9, 10, 12, 19, 500, 999_999_999, 1_000_000_000} {
			list = append(list, value(api.VMoney, currency, m))
		}
	}
	for _, s := range []int{0, 1, 9, 10, 59, 60, 61, 119, 120, 600, 3599, 3600, 3601, 3660, 7199, 7200, 9000, 35999, 36000, 86399, 86400, 360000, 1_000_000_007, longest - 1, longest} {
		list = append(list, value(api.VDur, s))
	}
	return slices.DeleteFunc(list, func(v api.Value) bool { return !act.Right(v) })
}

// kindly are the values of a pool that are of a kind.
func kindly(list []api.Value, kind int) []api.Value {
	return slices.DeleteFunc(slices.Clone(list), func(v api.Value) bool { return v.Kind != kind })
}
