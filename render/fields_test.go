package render_test

import (
	"math/rand"
	"strings"
	"testing"

	"interlocutor/api"
)

// P1101: of dates, times, moments, spans the fields are F.
func TestPlainFields(t *testing.T) {
	for _, v := range []api.Value{value(api.VDate, 2024, 2, 29), value(api.VTime, 9, 5, 30), value(api.VMoment, 2024, 2, 28, 9, 5, 30), value(api.VSpan, 2023, 12, 31, 2024, 1, 7)} {
		digits := map[int]string{2024: "2024", 2: "2", 29: "29", 9: "9", 5: "5", 30: "30", 28: "28", 2023: "2023", 12: "12", 31: "31", 1: "1", 7: "7"}
		for field, n := range v.F {
			expect(t, v, digits[n]+" ok", number(field, 0))
		}
	}
	expect(t, value(api.VMoment, 2024, 1, 2, 3, 4, 5), "5 4 3 2 1 2024 ok", number(5, 0), text(" "), number(4, 0), text(" "), number(3, 0), text(" "), number(2, 0), text(" "), number(1, 0), text(" "), number(0, 0))
	expect(t, value(api.VSpan, 2023, 4, 5, 2024, 7, 8), "08 07 2024 05 04 2023 ok", number(5, 2), text(" "), number(4, 2), text(" "), number(3, 2), text(" "), number(2, 2), text(" "), number(1, 2), text(" "), number(0, 2))
}

// P1101: of decimals 0 is the number towards 0, with `-` if the decimal is below 0; 1
// is the digits behind the point, noughts behind them.
func TestDecimalFields(t *testing.T) {
	for _, x := range []struct {
		m, scale, ahead, behind int
		want                    string
	}{
		{15, 1, 0, 0, "1.5 ok"}, {15, 1, 1, 1, "1.5 ok"}, {15, 1, 2, 2, "01.50 ok"}, {15, 1, 3, 4, "001.5000 ok"}, {19, 1, 0, 0, "1.9 ok"}, {-19, 1, 0, 0, "-1.9 ok"}, {-15, 1, 3, 4, "-001.5000 ok"},
		{-5, 1, 0, 0, "-0.5 ok"}, {-5, 1, 1, 1, "-0.5 ok"}, {-5, 1, 2, 2, "-00.50 ok"}, {-999, 3, 0, 0, "-0.999 ok"}, {-1, 18, 0, 0, "-0.000000000000000001 ok"}, {-most, 18, 0, 9, "-0.999999999999999999 ok"}, {5, 1, 0, 0, "0.5 ok"}, {5, 1, 2, 1, "00.5 ok"}, {most, 18, 0, 0, "0.999999999999999999 ok"},
		{5, 0, 0, 0, "5. ok"}, {5, 0, 0, 1, "5.0 ok"}, {5, 0, 0, 2, "5.00 ok"}, {5, 0, 9, 9, "000000005.000000000 ok"}, {0, 0, 0, 0, "0. ok"}, {0, 0, 2, 2, "00.00 ok"}, {-5, 0, 0, 0, "-5. ok"}, {-5, 0, 1, 3, "-5.000 ok"}, {-500, 0, 0, 0, "-500. ok"},
		{12345, 3, 0, 0, "12.345 ok"}, {12345, 3, 0, 2, "12.345 ok"}, {12345, 3, 0, 3, "12.345 ok"}, {12345, 3, 0, 4, "12.3450 ok"}, {12345, 3, 0, 9, "12.345000000 ok"}, {12005, 3, 0, 0, "12.005 ok"}, {12005, 3, 0, 4, "12.0050 ok"}, {-12005, 3, 0, 4, "-12.0050 ok"}, {1000001, 6, 0, 7, "1.0000010 ok"},
		{most, 9, 0, 9, "999999999.999999999 ok"}, {-most, 9, 9, 9, "-999999999.999999999 ok"}, {-most, 1, 0, 0, "-99999999999999999.9 ok"}, {most, 17, 0, 0, "9.99999999999999999 ok"}, {123456789012345678, 10, 0, 9, "12345678.9012345678 ok"},
	} {
		expect(t, value(api.VDec, x.m, x.scale), x.want, number(0, x.ahead), text("."), number(1, x.behind))
	}
	for _, x := range []struct {
		m, scale, field, class int
		want                   string
	}{
		{15, 1, 0, 1, "one ok"}, {19, 1, 0, 1, "one ok"}, {-19, 1, 0, 1, "less ok"}, {-29, 1, 0, 2, "lesser ok"}, {-5, 1, 0, 1, "null ok"}, {5, 1, 0, 1, "null ok"}, {0, 0, 0, 1, "null ok"},
		{107, 2, 1, 2, "seven ok"}, {-107, 2, 1, 2, "seven ok"}, {17, 1, 1, 2, "seven ok"}, {10007, 4, 1, 2, "seven ok"}, {71, 2, 1, 2, " style"}, {-11, 1, 1, 1, "one ok"}, {5, 0, 1, 1, "null ok"}, {-5, 0, 1, 1, "null ok"}, {15, 1, 1, 1, " style"}, {500000000000000024, 17, 1, 1, " style"},
	} {
		expect(t, value(api.VDec, x.m, x.scale), x.want, word(x.field, x.class))
	}
}

// P1101: of money 0 is the currency; 1 its units towards 0, with `-` likewise; 2 the
// rest, as so many digits as the currency modulo 10, whatever Width is.
func TestMoneyFields(t *testing.T) {
	for _, x := range []struct {
		currency, m, width int
		want               string
	}{
		{2, 1234, 0, "2 12.34 ok"}, {2, 1234, 1, "2 12.34 ok"}, {2, 1234, 4, "0002 0012.34 ok"}, {2, 1204, 0, "2 12.04 ok"}, {2, 1200, 0, "2 12.00 ok"}, {2, -1234, 0, "2 -12.34 ok"}, {2, -1234, 4, "0002 -0012.34 ok"}, {2, -1299, 0, "2 -12.99 ok"},
		{2, -5, 0, "2 -0.05 ok"}, {2, -5, 3, "002 -000.05 ok"}, {2, 5, 0, "2 0.05 ok"}, {2, 5, 9, "000000002 000000000.05 ok"}, {2, 0, 0, "2 0.00 ok"}, {2, 0, 9, "000000002 000000000.00 ok"}, {2, -99, 0, "2 -0.99 ok"}, {2, -100, 0, "2 -1.00 ok"},
		{10, 500, 0, "10 500. ok"}, {10, 500, 4, "0010 0500. ok"}, {10, -500, 4, "0010 -0500. ok"}, {0, 0, 0, "0 0. ok"}, {0, 0, 2, "00 00. ok"}, {0, -1, 0, "0 -1. ok"}, {1_000_000_000, 77, 9, "1000000000 000000077. ok"},
		{1, 15, 0, "1 1.5 ok"}, {1, -5, 9, "000000001 -000000000.5 ok"}, {13, -1234, 4, "0013 -0001.234 ok"}, {999_999_999, most, 9, "999999999 999999999.999999999 ok"}, {19, -most, 0, "19 -999999999.999999999 ok"}, {19, -5, 0, "19 -0.000000005 ok"}, {19, -5, 1, "19 -0.000000005 ok"}, {9, 1_000_000_000, 0, "9 1.000000000 ok"}, {9, -999_999_999, 0, "9 -0.999999999 ok"},
	} {
		expect(t, value(api.VMoney, x.currency, x.m), x.want, number(0, x.width), text(" "), number(1, x.width), text("."), number(2, x.width))
	}
	for _, x := range []struct {
		currency, m, field, class int
		want                      string
	}{
		{2, 199, 1, 1, "one ok"}, {2, -199, 1, 1, "less ok"}, {2, -207, 1, 2, "lesser ok"}, {2, -5, 1, 1, "null ok"}, {2, -107, 2, 2, "seven ok"}, {2, 170, 2, 2, " style"}, {3, 1001, 2, 1, "one ok"}, {2, 300, 2, 1, "null ok"}, {500, 7, 2, 1, "null ok"}, {500, 7, 1, 2, "seven ok"}, {2, 7, 1, 2, " style"}, {1, 7, 0, 1, "one ok"}, {0, 7, 0, 1, "null ok"}, {10, 1, 0, 1, " style"},
	} {
		expect(t, value(api.VMoney, x.currency, x.m), x.want, word(x.field, x.class))
	}
}

// P1101: of durations 0 is the seconds, 1 the hours, 2 the minutes of the last one, 3
// the seconds of that.
func TestDurationFields(t *testing.T) {
	for seconds, want := range map[int]string{0: "0=00:00:00 ok", 1: "1=00:00:01 ok", 59: "59=00:00:59 ok", 60: "60=00:01:00 ok", 61: "61=00:01:01 ok", 600: "600=00:10:00 ok", 3599: "3599=00:59:59 ok", 3600: "3600=01:00:00 ok", 3661: "3661=01:01:01 ok", 7199: "7199=01:59:59 ok", 86400: "86400=24:00:00 ok", 90061: "90061=25:01:01 ok", 360000: "360000=100:00:00 ok", 1_000_000_007: "1000000007=277777:46:47 ok", longest: "9007199254740991=2501999792983:36:31 ok"} {
		expect(t, value(api.VDur, seconds), want, number(0, 0), text("="), number(1, 2), text(":"), number(2, 2), text(":"), number(3, 2))
	}
	expect(t, value(api.VDur, 3602), "one null two ok", word(1, 1), text(" "), word(2, 1), text(" "), word(3, 1))
	expect(t, value(api.VDur, 7), "seven seven ok", word(0, 2), text(" "), word(3, 2))
	expect(t, value(api.VDur, 0), "null null null null ok", word(0, 1), text(" "), word(1, 1), text(" "), word(2, 1), text(" "), word(3, 1))
	expect(t, value(api.VDur, 3660), " style", word(0, 1))
}

// P1101: each field of each value of the pool, in each width and system, and as a
// word, is what the document's words make it.
func TestAllFields(t *testing.T) {
	for i, v := range pool() {
		for field := -1; field < 7; field++ {
			for width := range 10 {
				l := language((i+width)%4, style(v.Kind, number(field, width)))
				writes(t, l, 0, v, meant(l, 0, v))
			}
			for class := range 5 {
				l := language(0, style(v.Kind, word(field, class)))
				writes(t, l, 0, v, meant(l, 0, v))
			}
		}
	}
}

// someParts are parts by chance of a value, whose fields are there but for a few;
// some are long, so that they may be too long together.
func someParts(by *rand.Rand, v api.Value) []api.Part {
	var parts []api.Part
	fields := map[int]int{api.VDec: 2, api.VDur: 4}[v.Kind]
	if fields == 0 {
		fields = len(v.F)
	}
	least := by.Intn(21)
	for range 1 + by.Intn(12) {
		field := by.Intn(fields)
		switch by.Intn(9) {
		case 0:
			parts = append(parts, word(field, 1+by.Intn(2)))
		case 1, 2, 3, 4:
			parts = append(parts, number(field, min(least+by.Intn(10), 9)))
		case 5, 6, 7:
			parts = append(parts, text("01234567890123456789"[:min(least+by.Intn(20), 20)]))
		default:
			if by.Intn(10) == 0 {
				parts = append(parts, number(by.Intn(6), 0))
			}
		}
	}
	return parts
}

// someWords are words by chance, of two classes, some of numbers that a value has.
func someWords(by *rand.Rand, v api.Value) []api.Entry {
	list := words()[:by.Intn(len(words())+1)]
	for range by.Intn(19) {
		list = append(list, entry(1+by.Intn(2), by.Intn(14)-2, "w"+string(rune('a'+by.Intn(26)))))
	}
	for _, n := range v.F {
		list = append(list, entry(1+by.Intn(2), n, "this"))
	}
	by.Shuffle(len(list), func(i, j int) { list[i], list[j] = list[j], list[i] })
	return list
}

// P1101: languages and values by chance.
func TestAnyStyle(t *testing.T) {
	by := rand.New(rand.NewSource(1101))
	values := map[int][]api.Value{}
	for kind := api.VDate; kind <= api.VSpan; kind++ {
		values[kind] = kindly(pool(), kind)
	}
	outcomes := map[string]int{}
	for range 50_000 {
		some := values[api.VDate+by.Intn(7)]
		v := some[by.Intn(len(some))]
		l := language(by.Intn(4), style(v.Kind, someParts(by, v)...), style(api.VDate+by.Intn(7), someParts(by, v)...), style(v.Kind, someParts(by, v)...))
		l.Lex = someWords(by, v)
		for at := range l.Styles {
			want := meant(l, at, v)
			writes(t, l, at, v, want)
			outcomes[want[strings.LastIndexByte(want, ' '):]]++
		}
		if t.Failed() {
			return
		}
	}
	for _, want := range []string{" ok", " style", " range"} {
		if outcomes[want] < 300 {
			t.Errorf("P1101: too few of %q: %v", want, outcomes)
		}
	}
}
