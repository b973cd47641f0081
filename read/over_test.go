package read_test

import (
	"strings"
	"testing"

	"interlocutor/api"
	"interlocutor/read"
)

// readAll asks for a text's readings.
func readAll(l api.Locale, s string, ref api.Moment) ([]api.Reading, api.Errno) {
	return read.Readings(l, runesOf(s), ref)
}

// expectOver checks whether a text has too many values.
func expectOver(t *testing.T, l api.Locale, s string, want bool) {
	t.Helper()
	list, e := readAll(l, s, leap())
	if (e == api.Over) != want || e != api.OK && e != api.Over {
		t.Errorf("P901: %q: %v", s, e)
	}
	if e != api.OK && len(list) > 0 {
		t.Errorf("P4: %q: %d readings beside %v", s, len(list), e)
	}
}

// P901: just as many values of a symbol between two places as may be, and one more:
// of each symbol, at the text's beginning, in its midst, at its end, of values that
// are told and of others; it does not matter that no text has that symbol in it.
func TestOver(t *testing.T) {
	for _, sym := range []int{0, 1, 19} {
		for _, r := range rules(rule(sym, 0, month), does(sym, 0, api.ADur, at(0, 0), month)) {
			list := rules(r, does(18, 0, api.AWhole, at(0), num))
			if sym != 0 {
				list = append(list, rule(0, 0, 18))
			}
			for _, s := range []string{"a", "  a ", "a x", "a 7", "7 a 7", "x a x", "7 a", "x  a", "7a", "aa", "a a a"} {
				expectOver(t, having(list, alike("a", month, 1, 200)...), s, false)
				expectOver(t, having(list, alike("a", month, 1, 201)...), s, true)
			}
		}
	}
	expect(t, having(rules(rule(1, 0, month), does(0, 0, api.AWhole, at(0), num)), alike("a", month, 1, 200)...), "7", "7,7,0:0")
	expect(t, having(rules(rule(1, 0, month), does(0, 0, api.AWhole, at(0), num)), alike("a", month, 1, 201)...), "7", "7,7,0:0")
}

// P901: values that are told, by one rule and by several, of one symbol; there are
// all of them, if they are not too many.
func TestOverTold(t *testing.T) {
	list := rules(does(0, 0, api.ADur, at(1, 0), long, num), does(0, 1, api.ADur, at(1, 0), unit, num))
	words := append(alike("a", long, 1, 150), alike("a", unit, 51, 150)...)
	all, e := readAll(having(list, words...), "a1", leap())
	if e != api.OK || len(all) != 200 {
		t.Fatalf("P901: 200 values: %d, %v", len(all), e)
	}
	for k, x := range all {
		want := 0
		if k >= 150 {
			want = 1
		}
		if x.V.Kind != api.VDur || x.V.F[0] != k+1 || x.Cost != want {
			t.Errorf("P901: reading %d: %v", k, x)
		}
	}
	expectOver(t, having(list, append(words, is("a", unit, 201))...), "a1", true)
	expectOver(t, having(list, append(words, is("a", unit, 1))...), "a1", false)
	// the ones between other places do not count
	expectOver(t, having(list, append(words, is("ab", unit, 201))...), "ab1", false)
	expectOver(t, having(list, append(words, is("a", sign, 201))...), "a1", false)
}

// P901: several derivations of a value, and such as make none, count for one and for
// none.
func TestOverOnce(t *testing.T) {
	words := alike("a", long, 1, 200)
	list := rules(rule(2, 0, long), rule(2, 7, long), rule(2, 3, 3), rule(3, 0, long))
	expectOver(t, having(list, words...), "a", false)
	expectOver(t, having(append(list, rule(2, 0, unit)), append(words, is("a", unit, 100))...), "a", false)
	expectOver(t, having(append(list, rule(2, 0, unit)), append(words, is("a", unit, 201))...), "a", true)
	expectOver(t, having(append(list, does(2, 0, api.AWhole, at(0), unit)), append(words, is("a", unit, 201))...), "a", false)
	// 200 and more of signs, of which nothing comes, and of which there is no symbol
	expectOver(t, having(rules(does(0, 0, api.ANext, at(0), long)), alike("a", long, 7, 300)...), "a", false)
	expect(t, having(rules(does(0, 0, api.ANext, at(0), long)), alike("a", long, 0, 300)...), "a", "4,2024,3,1:0 4,2024,3,2:0 4,2024,3,3:0 4,2024,3,4:0 4,2024,3,5:0 4,2024,3,6:0 4,2024,3,7:0")
	expectOver(t, having(rules(rule(0, 0, long, long)), alike("a", long, 0, 300)...), "a", false)
	expectOver(t, having(rules(rule(0, 0, long, long)), alike("a", long, 0, 300)...), "a a", true)
	// numbers of one value, but of other lengths, are two
	list = rules(rule(1, 0, long), rule(1, 0, num), pick(1, 0, 1, num, num))
	expectOver(t, having(list, alike("7 07", long, 1, 199)...), "7 07", false)
	expectOver(t, having(list, alike("7 07", long, 1, 200)...), "7 07", true)
	expectOver(t, having(append(list, rule(1, 0, num, num)), alike("7 07", long, 1, 199)...), "7 07", true)
	expectOver(t, having(append(list, rule(1, 0, num, num)), alike("7 7", long, 1, 199)...), "7 7", false)
}

// P901: sums of few values may be too many.
func TestOverJoined(t *testing.T) {
	list := rules(does(0, 0, api.ASum, at(0, 1), 1, 2), does(1, 0, api.ADur, at(1, 0), long, num), does(2, 0, api.ADur, at(1, 0), unit, num))
	tens := func(many int) []api.Entry {
		words := alike("a", long, 1, 10)
		for k := range many {
			words = append(words, is("b", unit, 10*k))
		}
		return append(words, is("b", unit, 1))
	}
	expectOver(t, having(list, tens(20)...), "a1 b1", false)
	expectOver(t, having(list, tens(21)...), "a1 b1", true)
	expectOver(t, having(list, tens(21)...), "a1", false)
	expectOver(t, having(list, tens(21)...), "x b1 a1", false)
	expectOver(t, having(list, tens(21)...), "x a1 b1", true)
}

// P1: parts of many values each, of which together nothing may come: of values of
// another kind, out of bounds, or as a part of the rule is not there.
func TestManyJoined(t *testing.T) {
	s := strings.Repeat("a", 30)
	six := func(part int) []int { return []int{part, part, part, part, part, part} }
	each := at(0, 1, 2, 3, 4, 5)
	for _, l := range []api.Locale{
		having(rules(rule(2, 0, long), does(0, 0, api.AGroup, each, six(2)...)), alike("a", long, 0, 200)...),
		having(rules(does(0, 0, api.AGroup, each, six(long)...)), alike("a", long, 0, 300)...),
		having(rules(rule(2, 0, long), does(0, 0, api.ARel, at(0, 2, 4), six(2)...)), alike("a", long, 5, 200)...),
		having(rules(rule(2, 0, long), does(0, 0, api.AHalf, at(0, 1, 2), six(2)...)), alike("a", long, 5, 200)...),
		having(rules(rule(2, 0, long), does(0, 0, api.ADate, at(5, 2, 0), append(six(2)[1:], num)...)), alike("a", long, 5, 200)...),
		having(rules(rule(2, 0, long), rule(0, 0, 2, 2, 2, 2, slash)), alike("a", long, 5, 200)...),
	} {
		expect(t, l, s, "")
	}
	// numbers, of which six are no group
	var numbers strings.Builder
	for k := range 40 {
		numbers.WriteString(string(rune('0'+k/10)) + string(rune('0'+k%10)) + " ")
	}
	list := rules(rule(1, 0, num), rule(1, 0, 1, 1), pick(1, 0, 1, 1, 1), does(0, 0, api.AGroup, each, six(1)...))
	expect(t, having(list), numbers.String(), "")
	expectOver(t, having(list), strings.ReplaceAll(numbers.String(), " ", "0 "), true)
	// five are one, but there is no mark behind them
	list[3] = does(0, 0, api.AGroup, at(0, 1, 2, 3, 4), append(six(1)[1:], slash)...)
	expect(t, having(list), strings.ReplaceAll(numbers.String(), " ", "0 "), "")
}

// P1: long texts, of many derivations of few values.
func TestLong(t *testing.T) {
	list := rules(does(0, 0, api.AWhole, at(0), num), rule(0, 1, 0, 0), pick(0, 1, 3, 0, 0, 0, 0, 0, 0))
	expect(t, having(list), strings.Repeat("7 ", 64), "7,7,0:15")
	list = rules(does(0, 0, api.ADur, at(0, 1), num, long), does(0, 1, api.ASum, at(0, 1), 0, 0))
	expect(t, having(list, is("h", long, 3600)), strings.Repeat("1h", 128), "9,460800:127")
	expect(t, having(list, is("h", long, 3600)), strings.Repeat("1h", 128)+"x", "")
	list = rules(does(0, 0, api.AWhole, at(0), num), does(0, 1, api.ANeg, at(1), minus, 0))
	expect(t, having(list), strings.Repeat("-", 1001)+"7", "7,-7,0:1001")
	expect(t, having(list), strings.Repeat(" ", 100_000)+"7"+strings.Repeat(" ", 100_000), "7,7,0:0")
	expect(t, having(list), strings.Repeat("7 ", 10_000), "")
	expect(t, having(list), strings.Repeat("7", 10_000), "")
	expect(t, having(list), strings.Repeat("9", 18), "7,999999999999999999,0:0")
	expect(t, having(list), strings.Repeat("9", 19), "")
	expect(t, having(list), strings.Repeat("x", 100_000), "")
}
