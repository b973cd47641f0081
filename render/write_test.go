package render_test

import (
	"math"
	"strings"
	"testing"

	"interlocutor/api"
)

// P1101: PText is its Text, whatever that is.
func TestText(t *testing.T) {
	v := value(api.VDate, 2024, 2, 9)
	for _, s := range []string{"", " ", "-", "0", "a", "Feb", "  x  ", "\x00", "\xff", "\xe2\x82", "٣", "\u00a0", "twenty bytes, no more"} {
		expect(t, v, s+" ok", text(s))
		expect(t, v, "<"+s+">"+s+" ok", text("<"), text(s), text(">"), text(s))
	}
	// It asks for no field, and for nothing else.
	expect(t, v, "x ok", api.Part{Kind: api.PText, Text: "x", Field: 99, Width: 9, Class: 1})
	writes(t, language(3, style(api.VDate, text("2024"))), 0, v, "2024 ok")
}

// P1101: PNumber has noughts ahead up to Width, PWord and PText have none.
func TestWidth(t *testing.T) {
	v := value(api.VDate, 2024, 12, 9)
	for width, want := range []string{"9|12|2024 ok", "9|12|2024 ok", "09|12|2024 ok", "009|012|2024 ok", "0009|0012|2024 ok", "00009|00012|02024 ok", "000009|000012|002024 ok", "0000009|0000012|0002024 ok", "00000009|00000012|00002024 ok", "000000009|000000012|000002024 ok"} {
		expect(t, v, want, number(2, width), text("|"), number(1, width), text("|"), number(0, width))
	}
	nought := value(api.VTime, 0, 0, 0)
	for width, want := range map[int]string{0: "0 ok", 1: "0 ok", 2: "00 ok", 9: "000000000 ok"} {
		expect(t, nought, want, number(1, width))
	}
	expect(t, nought, "null ok", api.Part{Kind: api.PWord, Field: 0, Class: 1, Width: 9})
	expect(t, nought, "x ok", api.Part{Kind: api.PText, Text: "x", Width: 9})
	greatest := value(api.VDur, longest)
	for width, want := range map[int]string{0: "9007199254740991 ok", 9: "9007199254740991 ok", 15: "9007199254740991 ok", 16: "9007199254740991 ok", 17: "09007199254740991 ok", 18: "009007199254740991 ok"} {
		expect(t, greatest, want, number(0, width))
	}
}

// P1101: numbers below 0 have a `-` that Width does not count; the least and the
// greatest that there are.
func TestBelowNought(t *testing.T) {
	for _, x := range []struct {
		m, width int
		want     string
	}{
		{-7, 0, "-7 ok"}, {-7, 1, "-7 ok"}, {-7, 2, "-07 ok"}, {-7, 3, "-007 ok"}, {7, 3, "007 ok"}, {-700, 3, "-700 ok"}, {-700, 4, "-0700 ok"}, {0, 0, "0 ok"}, {0, 1, "0 ok"}, {0, 3, "000 ok"}, {-1, 9, "-000000001 ok"}, {1, 9, "000000001 ok"},
		{most, 0, "999999999999999999 ok"}, {most, 9, "999999999999999999 ok"}, {-most, 0, "-999999999999999999 ok"}, {-most, 9, "-999999999999999999 ok"}, {-most, 18, "-999999999999999999 ok"}, {-most, 19, "-0999999999999999999 ok"}, {-most + 1, 9, "-999999999999999998 ok"}, {-123456789, 9, "-123456789 ok"}, {-12345678, 9, "-012345678 ok"},
		{most + 1, 0, " range"}, {-most - 1, 0, " range"}, {math.MinInt, 0, " range"}, {math.MaxInt, 0, " range"}, {math.MinInt, 9, " range"}, {math.MaxInt, 9, " range"},
	} {
		expect(t, value(api.VDec, x.m, 0), x.want, number(0, x.width))
		expect(t, value(api.VMoney, 0, x.m), x.want, number(1, x.width))
		expect(t, value(api.VMoney, 1_000_000_000, x.m), x.want, number(1, x.width))
	}
}

// P1101: in the digits of the language; `-`, texts, words stay.
func TestDigits(t *testing.T) {
	for system, want := range []string{"2024-000000013 ok", "٢٠٢٤-٠٠٠٠٠٠٠١٣ ok", "۲۰۲۴-۰۰۰۰۰۰۰۱۳ ok", "२०२४-०००००००१३ ok"} {
		writes(t, language(system, style(api.VDate, number(0, 4), text("-"), number(2, 9))), 0, value(api.VDate, 2024, 2, 13), want)
	}
	for system, want := range []string{"-09876.543210 ok", "-٠٩٨٧٦.٥٤٣٢١٠ ok", "-۰۹۸۷۶.۵۴۳۲۱۰ ok", "-०९८७६.५४३२१० ok"} {
		writes(t, language(system, style(api.VDec, number(0, 5), text("."), number(1, 6))), 0, value(api.VDec, -987654321, 5), want)
	}
	for system, want := range []string{"0013 -0,005 ok", "٠٠١٣ -٠,٠٠٥ ok", "۰۰۱۳ -۰,۰۰۵ ok", "००१३ -०,००५ ok"} {
		writes(t, language(system, style(api.VMoney, number(0, 4), text(" "), number(1, 1), text(","), number(2, 9))), 0, value(api.VMoney, 13, -5), want)
	}
	for system, want := range []string{"90 9 two 0 ok", "٩٠ 9 two ٠ ok", "۹۰ 9 two ۰ ok", "९० 9 two ० ok"} {
		writes(t, language(system, style(api.VDur, number(0, 0), text(" 9 "), word(0, 1), text(" "), number(1, 0))), 0, value(api.VDur, 90), " style")
		writes(t, language(system, style(api.VTime, number(2, 0), number(1, 0), text(" 9 "), word(0, 1), text(" "), number(1, 0))), 0, value(api.VTime, 2, 0, 9), want)
	}
	for system := range 4 {
		for d, digit := range digitsOf(system) {
			writes(t, language(system, style(api.VTime, number(2, 0))), 0, value(api.VTime, 1, 2, d), digit+" ok")
		}
	}
}

// P1101: PWord is the first word of its Class with the Field's number.
func TestWord(t *testing.T) {
	for _, x := range []struct {
		v            api.Value
		field, class int
		want         string
	}{
		{value(api.VTime, 2, 1, 0), 0, 1, "two ok"},  // one
		{value(api.VTime, 2, 1, 0), 1, 1, "one ok"},  // two, and one of another class ahead
		{value(api.VTime, 2, 1, 0), 2, 1, "null ok"}, // two, one of them the last but one
		{value(api.VTime, 2, 1, 0), 1, 2, "other ok"},
		{value(api.VTime, 2, 1, 7), 2, 2, "seven ok"},
		{value(api.VTime, 2, 1, 7), 2, 1, " style"}, // none of this number
		{value(api.VTime, 2, 1, 7), 0, 2, " style"},
		{value(api.VTime, 2, 1, 7), 0, 5, " style"}, // none of this class
		{value(api.VTime, 2, 1, 7), 0, 0, " style"},
		{value(api.VDate, 2024, 2, 9), 0, 3, "this year ok"},
		{value(api.VDate, 2023, 2, 9), 0, 3, " style"},
		{value(api.VDate, 9999, 2, 9), 0, 49, "last ok"},
		{value(api.VDec, -1, 0), 0, 1, "less ok"},
		{value(api.VDec, -1, 0), 0, 2, " style"},
		{value(api.VDec, -2, 0), 0, 2, "lesser ok"},
		{value(api.VDec, 2, 0), 0, 2, " style"},
		{value(api.VMoney, 500, 2), 0, 4, "jpy ok"},
		{value(api.VMoney, 2, 500), 0, 4, " style"},
		{value(api.VMoney, 0, 500), 1, 4, "jpy ok"},
	} {
		expect(t, x.v, x.want, word(x.field, x.class))
	}
	v := value(api.VTime, 2, 1, 0)
	l := language(0, style(api.VTime, word(1, 1)))
	l.Lex = []api.Entry{entry(1, 2, "b"), entry(1, 1, "first"), entry(1, 1, "second"), entry(2, 1, "c")}
	writes(t, l, 0, v, "first ok")
	l.Lex[1], l.Lex[2] = l.Lex[2], l.Lex[1]
	writes(t, l, 0, v, "second ok")
	l.Lex = l.Lex[2:]
	writes(t, l, 0, v, "first ok")
	l.Lex = l.Lex[1:]
	writes(t, l, 0, v, " style")
	l.Lex = nil
	writes(t, l, 0, v, " style")
}

// P1101: a PWord of a field that is nothing is that of 0.
func TestWordOfNothing(t *testing.T) {
	for _, m := range []int{-most, -7, -1, 0, 1, 7, most} {
		expect(t, value(api.VDec, m, 0), "null ok", word(1, 1))
		expect(t, value(api.VDec, m, 0), " style", word(1, 2))
		for _, currency := range []int{0, 10, 500, 1_000_000_000} {
			expect(t, value(api.VMoney, currency, m), "null ok", word(2, 1))
			expect(t, value(api.VMoney, currency, m), "| ok", number(2, 5), text("|"), number(2, 0))
			expect(t, value(api.VMoney, currency, m), " style", word(2, 2))
		}
	}
}

// P1101: parts stand behind one another, in their order.
func TestParts(t *testing.T) {
	v := value(api.VDate, 2024, 2, 9)
	expect(t, v, " ok")
	expect(t, v, "2 ok", number(1, 0))
	expect(t, v, "two ok", word(1, 1))
	expect(t, v, "x ok", text("x"))
	for _, x := range []struct {
		want  string
		order [3]int
	}{{"x09two ok", [3]int{0, 1, 2}}, {"xtwo09 ok", [3]int{0, 2, 1}}, {"09xtwo ok", [3]int{1, 0, 2}}, {"09twox ok", [3]int{1, 2, 0}}, {"twox09 ok", [3]int{2, 0, 1}}, {"two09x ok", [3]int{2, 1, 0}}} {
		parts := []api.Part{text("x"), number(2, 2), word(1, 1)}
		expect(t, v, x.want, parts[x.order[0]], parts[x.order[1]], parts[x.order[2]])
	}
	expect(t, v, "99two09922024024this year ok", number(2, 1), number(2, 0), word(1, 1), number(2, 2), number(2, 0), number(1, 0), text("2024"), text(""), text("02"), text("4"), word(0, 3))
}

// P1101: NoStyle, if the kind has no such field.
func TestNoSuchField(t *testing.T) {
	all := map[int]api.Value{
		3: value(api.VDate, 1, 1, 1),
		6: value(api.VMoment, 1, 1, 1, 1, 1, 1),
		2: value(api.VDec, 11, 1),
		4: value(api.VDur, 3661),
	}
	check := func(has int, v api.Value) {
		for _, field := range append(extremes(), 2, 3, 4, 5, 6, 7, 99) {
			number, word := number(field, 0), word(field, 1)
			isThere := field >= 0 && field < has
			for _, p := range []api.Part{number, word} {
				got := told(language(0, style(v.Kind, p)), 0, v)
				isWordless := v.Kind == api.VDur && field == 0 && p.Kind == api.PWord
				if (got == " style") == (isThere && !isWordless) {
					t.Errorf("P1101: field %d of %v: %q", field, v, got)
				}
			}
		}
	}
	for has, v := range all {
		check(has, v)
	}
	check(3, value(api.VTime, 1, 1, 1))
	check(6, value(api.VSpan, 1, 1, 1, 1, 1, 1))
	check(3, value(api.VMoney, 1, 11))
	check(3, value(api.VMoney, 0, 1))
	check(2, value(api.VDec, 1, 0))
}

// parted is a style of these texts' parts: each # is nine digits.
func parted(s string) []api.Part {
	var parts []api.Part
	for _, piece := range strings.SplitAfter(s, "#") {
		before, isNumber := strings.CutSuffix(piece, "#")
		parts = append(parts, text(before))
		if isNumber {
			parts = append(parts, number(1, 9))
		}
	}
	return parts
}

// P1101: OutOfRange, if it has more than 256 bytes, whichever part goes beyond.
func TestTooLong(t *testing.T) {
	v := value(api.VDate, 2024, 2, 9)
	twenty := strings.Repeat("x", 20)
	for _, x := range []struct {
		system, bytes int
		parts         []api.Part
	}{
		{0, 12, parted("xxx#")},
		{0, 240, parted(strings.Repeat(twenty, 12))},
		{0, 255, parted(strings.Repeat("x", 246) + "#")},
		{0, 256, parted(strings.Repeat("x", 247) + "#")},
		{0, 257, parted(strings.Repeat("x", 248) + "#")},
		{0, 257, parted("#" + strings.Repeat("x", 248))},
		{0, 256, parted("#" + strings.Repeat("x", 247))},
		{0, 265, parted(strings.Repeat("x", 256) + "#")},
		{1, 256, parted(strings.Repeat("#", 14) + "xxxx")},
		{1, 257, parted(strings.Repeat("#", 14) + "xxxxx")},
		{1, 258, parted("xxxxxx" + strings.Repeat("#", 14))},
		{2, 256, parted("xxxx" + strings.Repeat("#", 14))},
		{3, 256, parted(strings.Repeat("#", 9) + "xxxxxxxxxxxxx")},
		{3, 257, parted(strings.Repeat("#", 9) + "xxxxxxxxxxxxxx")},
		{3, 258, parted("xxxxxxxxxxxxxxx" + strings.Repeat("#", 9))},
		{3, 324, parted(strings.Repeat("#", 12))},
		{0, 256, append(parted(strings.Repeat("x", 253)), word(1, 1))},
		{0, 257, append(parted(strings.Repeat("x", 254)), word(1, 1))},
		{0, 256, append([]api.Part{word(1, 1)}, parted(strings.Repeat("x", 253))...)},
		{0, 257, append([]api.Part{word(1, 1)}, parted(strings.Repeat("x", 254))...)},
		{0, 256, parted(strings.Repeat("x", 256))},
		{0, 257, parted(strings.Repeat("x", 257))},
		{0, 256, parted(strings.Repeat("\xff", 256))},
		{0, 257, parted(strings.Repeat("\xff", 257))},
		{0, 256, parted(strings.Repeat("é", 128))},
		{0, 257, parted(strings.Repeat("é", 128) + "x")},
		{0, 514, parted(strings.Repeat("é", 257))},
	} {
		l := language(x.system, style(api.VDate, x.parts...))
		got := told(l, 0, v)
		if want := x.bytes <= 256; want != (len(got) == x.bytes+len(" ok")) || !want && got != " range" {
			t.Errorf("P1101: %d bytes of system %d: %q", x.bytes, x.system, got)
		}
	}
}

// P6: NoStyle of whichever part is told, though the text is too long, and OutOfRange
// of the value ahead of both.
func TestOrderOfErrors(t *testing.T) {
	long := parted(strings.Repeat("x", 257))[0]
	for _, lacks := range []api.Part{word(1, 9), word(3, 1), number(3, 0), number(-1, 0), word(-1, 1)} {
		for _, parts := range [][]api.Part{{lacks}, {lacks, long}, {long, lacks}, {long, lacks, long}, {number(1, 9), lacks}, {lacks, number(1, 9)}, {lacks, lacks}, {word(1, 1), lacks, text("x")}} {
			expect(t, value(api.VDate, 2024, 2, 9), " style", parts...)
			expect(t, value(api.VDate, 2023, 2, 29), " range", parts...)
			expect(t, value(api.VDate, 2024, 2, 9), " range", append(parts[:0:0], long, text("x"))...)
			l := language(0, style(api.VTime, parts...), style(api.VDate, parts...))
			writes(t, l, 0, value(api.VDate, 2023, 2, 29), " style")
			writes(t, l, 1, value(api.VDate, 2023, 2, 29), " range")
			writes(t, l, 2, value(api.VDate, 2023, 2, 29), " style")
		}
	}
}
