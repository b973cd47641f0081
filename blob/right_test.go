package blob_test

import (
	"math"
	"slices"
	"strconv"
	"strings"
	"testing"

	"interlocutor/api"
)

// many are so many languages with nothing in them.
func many(n int) []api.Locale {
	l := make([]api.Locale, n)
	for i := range l {
		l[i] = api.Locale{Id: "n" + strconv.Itoa(i), Parent: -1}
	}
	return l
}

// P501: there are no more than 10; none (nil) and an empty list are the same.
func TestRightHowMany(t *testing.T) {
	right(t, nil, true)
	right(t, []api.Locale{}, true)
	for _, n := range []int{1, 2, 9, 10, 11, 12, 20, 10 + 256} {
		right(t, many(n), n <= 10)
	}
	right(t, family(), true)
	right(t, []api.Locale{{}}, false)
	right(t, []api.Locale{{Id: "a"}}, false) // its Parent would be itself
}

// rightId tries an Id at the first place, amid and at the last one.
func rightId(t *testing.T, id string, want bool) {
	t.Helper()
	for at := range 3 {
		l := many(3)
		l[at].Id = id
		right(t, l, want)
	}
}

// P501: Ids are 1 to 12 small letters, digits, `-`.
func TestRightIds(t *testing.T) {
	const signs = "abcdefghijklmnopqrstuvwxyz0123456789-"
	for n := range 30 {
		rightId(t, strings.Repeat("b", n), 1 <= n && n <= 12)
	}
	rightId(t, strings.Repeat("x", 12+256), false)
	for b := range 256 {
		s, is := string([]byte{byte(b)}), strings.IndexByte(signs, byte(b)) >= 0
		for _, id := range []string{s, s + "ab", "a" + s + "b", "ab" + s, "elevenbytes" + s} {
			rightId(t, id, is)
		}
	}
	for _, id := range []string{"-", "--", "0", "en-gb", "9-a"} {
		rightId(t, id, true)
	}
	for _, id := range []string{"EN", "eN", "a_b", "a b", "é", "sixth\u00e9", "１", "\u2010", "a\x00", ""} {
		rightId(t, id, false)
	}
}

// P501: no Id is there twice, wherever the two are; one may begin like another.
func TestRightIdsTwice(t *testing.T) {
	for a := range 10 {
		for b := range 10 {
			l := many(10)
			l[a].Id = l[b].Id
			right(t, l, a == b)
		}
	}
	l := many(2)
	l[0].Id, l[1].Id = "en", "en-"
	right(t, l, true)
}

// P501: a Parent is -1, or the place of one ahead.
func TestRightParents(t *testing.T) {
	for n := 1; n <= 10; n++ {
		for at := range n {
			for parent := -12; parent <= 12; parent++ {
				l := many(n)
				l[at].Parent = parent
				right(t, l, -1 <= parent && parent < at)
			}
			for _, parent := range far() {
				l := many(n)
				l[at].Parent = parent
				right(t, l, false)
			}
		}
	}
	l := many(2)
	l[0].Parent, l[1].Parent = 1, 0
	right(t, l, false)
}

// P501: Digits are 0 to 3.
func TestRightDigits(t *testing.T) {
	for at := range 3 {
		for _, n := range append(far(), -2, -1, 0, 1, 2, 3, 4, 5, 256, 259) {
			l := many(3)
			l[at].Digits = n
			right(t, l, 0 <= n && n <= 3)
		}
	}
}

// P501: there are no more than 30 Lex, 20 Styles of its own; a Parent's do not
// count.
func TestRightCounts(t *testing.T) {
	entry := api.Entry{Text: "a", Class: 1}
	style := api.Style{Kind: api.VDate, Parts: []api.Part{text("")}}
	for _, n := range []int{0, 1, 19, 20, 21, 22, 29, 30, 31, 32, 256, 256 + 20} {
		for at := range 3 {
			l := many(3)
			l[at].Lex = slices.Repeat([]api.Entry{entry}, n)
			right(t, l, n <= 30)
			l = many(3)
			l[at].Styles = slices.Repeat([]api.Style{style}, n)
			right(t, l, n <= 20)
		}
	}
	l := many(10)
	for i := range l {
		l[i].Parent = i - 1
		l[i].Lex, l[i].Styles = slices.Repeat([]api.Entry{entry}, 30), slices.Repeat([]api.Style{style}, 20)
	}
	right(t, l, true)
}

// entry tries a Lex alone, and at places among others.
func entry(t *testing.T, e api.Entry, want bool) {
	t.Helper()
	right(t, alone(func(x *api.Locale) { x.Lex = []api.Entry{e} }), want)
	for _, at := range []int{0, 15, 29} {
		right(t, alone(func(x *api.Locale) {
			x.Lex = slices.Repeat([]api.Entry{{Text: "ok", Class: 7, Value: 7}}, 30)
			x.Lex[at] = e
		}), want)
	}
}

// P501: a Lex's Text is of 1 to 20 bytes, not signs.
func TestRightTextLength(t *testing.T) {
	for n := range 50 {
		entry(t, api.Entry{Text: strings.Repeat("a", n), Class: 1}, 1 <= n && n <= 20)
	}
	entry(t, api.Entry{Text: strings.Repeat("é", 10), Class: 1}, true)
	entry(t, api.Entry{Text: strings.Repeat("é", 10) + "a", Class: 1}, false)
	entry(t, api.Entry{Text: strings.Repeat("日", 6) + "ab", Class: 1}, true)
	entry(t, api.Entry{Text: strings.Repeat("日", 7), Class: 1}, false)
	entry(t, api.Entry{Text: strings.Repeat("a", 20+256), Class: 1}, false)
}

// P501: fold.Text leaves it as it is.
func TestRightTextFolded(t *testing.T) {
	for _, s := range []string{"a", "é", "日", "ÿ", "ω", "я", "ѐ", "×", "٪", "0", "-1.", "$", "'", "a\n", "\n", "\x00", "\u2016", "\ufffd", "\U0001f600", "\u0307", "ß"} {
		entry(t, api.Entry{Text: s, Class: 1}, true)
		entry(t, api.Entry{Text: "x" + s + "x", Class: 1}, true)
	}
	for _, s := range []string{"A", "Z", "É", "Ω", "Я", "Ѐ", "٣", "۳", "३", "\t", "\u00a0", "\u2003", "\u3000", "\u2013", "\u2212", "\u2019", "\uff41", "\uff21", "\xff", "\xc3", "\x80", "\xed\xa0\x80", "\xf4\x90\x80\x80", "\xc0\xaf"} {
		entry(t, api.Entry{Text: s, Class: 1}, false)
		entry(t, api.Entry{Text: "x" + s + "x", Class: 1}, false)
	}
}

// P501: its first and its last byte is no blank; there may be some amid.
func TestRightTextBlanks(t *testing.T) {
	for _, s := range []string{" ", "  ", " a", "a ", "  a", "a  ", " a ", " é", "é ", strings.Repeat("a", 19) + " ", " " + strings.Repeat("a", 19)} {
		entry(t, api.Entry{Text: s, Class: 1}, false)
	}
	for _, s := range []string{"a b", "a  b", "a b c", "é é", "a" + strings.Repeat(" ", 18) + "b"} {
		entry(t, api.Entry{Text: s, Class: 1}, true)
	}
}

// P501: Class is 1 to 49, Value -10^9 to 10^9.
func TestRightEntryNumbers(t *testing.T) {
	for n := -70; n <= 300; n++ {
		entry(t, api.Entry{Text: "a", Class: n}, 1 <= n && n <= 49)
	}
	for _, n := range far() {
		entry(t, api.Entry{Text: "a", Class: n}, false)
		entry(t, api.Entry{Text: "a", Class: 1, Value: n}, false)
	}
	for n, want := range map[int]bool{-1000000001: false, -1000000000: true, -999999999: true, -1: true, 0: true, 1: true, 999999999: true, 1000000000: true, 1000000001: false, 1<<32 + 5: false} {
		entry(t, api.Entry{Text: "a", Class: 49, Value: n}, want)
	}
}

// P501: the same word may be there twice, with the same value or another one.
func TestRightEntriesTwice(t *testing.T) {
	e := api.Entry{Text: "a", Class: 1, Value: 2}
	right(t, alone(func(x *api.Locale) {
		x.Lex = []api.Entry{e, e, {Text: "a", Class: 1, Value: 3}, {Text: "a", Class: 2, Value: 2}}
	}), true)
}

// style tries a Style alone, and at places among others.
func style(t *testing.T, s api.Style, want bool) {
	t.Helper()
	right(t, alone(func(x *api.Locale) { x.Styles = []api.Style{s} }), want)
	for _, at := range []int{0, 9, 19} {
		right(t, alone(func(x *api.Locale) {
			x.Styles = slices.Repeat([]api.Style{{Kind: api.VDur, Parts: []api.Part{field(1, 2)}}}, 20)
			x.Styles[at] = s
		}), want)
	}
}

// P501: a Style's Kind is VDate to VSpan, and it has 1 to 12 Parts.
func TestRightStyles(t *testing.T) {
	for kind := -5; kind <= 20; kind++ {
		for n := range 30 {
			style(t, api.Style{Kind: kind, Parts: make([]api.Part, n)}, 4 <= kind && kind <= 10 && 1 <= n && n <= 12)
		}
	}
	for _, kind := range append(far(), 256+4, 256+10) {
		style(t, api.Style{Kind: kind, Parts: make([]api.Part, 1)}, false)
	}
	style(t, api.Style{Kind: api.VDate, Parts: make([]api.Part, 256+1)}, false)
	style(t, api.Style{Kind: api.VDate, Parts: []api.Part{}}, false)
	style(t, api.Style{}, false)
}

// part tries a Part alone, and at each place among 12.
func part(t *testing.T, p api.Part, want bool) {
	t.Helper()
	right(t, alone(func(x *api.Locale) { x.Styles = []api.Style{{Kind: api.VDec, Parts: []api.Part{p}}} }), want)
	for at := range 12 {
		parts := slices.Repeat([]api.Part{field(0, 0), text("."), word(1, 2)}, 4)
		parts[at] = p
		right(t, alone(func(x *api.Locale) { x.Styles = []api.Style{{Kind: api.VDec, Parts: parts}} }), want)
	}
}

// P501: a PText has a Text of 20 bytes at most, whatever they are, and nothing
// else.
func TestRightTextParts(t *testing.T) {
	for n := range 50 {
		part(t, text(strings.Repeat("a", n)), n <= 20)
		part(t, text(strings.Repeat("\xff", n)), n <= 20)
	}
	part(t, text(strings.Repeat("a", 20+256)), false)
	for _, s := range []string{"", " ", " a", "a ", "\t", "A", "É", "٣", "\u2013", "\x00", "\xc3"} {
		part(t, text(s), true)
	}
	for _, n := range append(far(), -1, 1, 5, 9, 49, 256) {
		for _, s := range []string{"", "a"} {
			part(t, api.Part{Kind: api.PText, Text: s, Field: n}, false)
			part(t, api.Part{Kind: api.PText, Text: s, Width: n}, false)
			part(t, api.Part{Kind: api.PText, Text: s, Class: n}, false)
		}
	}
}

// P501: a PNumber has a Field 0 to 5, a Width 0 to 9, and nothing else.
func TestRightNumberParts(t *testing.T) {
	for n := -70; n <= 300; n++ {
		part(t, field(n, 3), 0 <= n && n <= 5)
		part(t, field(3, n), 0 <= n && n <= 9)
		part(t, api.Part{Kind: api.PNumber, Field: 1, Width: 1, Class: n}, n == 0)
	}
	for _, n := range far() {
		part(t, field(n, 3), false)
		part(t, field(3, n), false)
		part(t, api.Part{Kind: api.PNumber, Field: 1, Width: 1, Class: n}, false)
	}
	for n := range 6 {
		for width := range 10 {
			part(t, field(n, width), true)
			part(t, api.Part{Kind: api.PNumber, Text: " ", Field: n, Width: width}, false)
		}
	}
}

// P501: a PWord has a Field 0 to 5, a Class 1 to 49, and nothing else.
func TestRightWordParts(t *testing.T) {
	for n := -70; n <= 300; n++ {
		part(t, word(n, 3), 0 <= n && n <= 5)
		part(t, word(3, n), 1 <= n && n <= 49)
		part(t, api.Part{Kind: api.PWord, Field: 1, Class: 1, Width: n}, n == 0)
	}
	for _, n := range far() {
		part(t, word(n, 3), false)
		part(t, word(3, n), false)
		part(t, api.Part{Kind: api.PWord, Field: 1, Class: 1, Width: n}, false)
	}
	part(t, api.Part{Kind: api.PWord, Text: "a", Class: 1}, false)
	part(t, api.Part{Kind: api.PWord}, false)
}

// P501: there is no other kind of Part.
func TestRightPartKinds(t *testing.T) {
	for _, kind := range append(far(), -2, -1, 3, 4, 5, 256, 257, 258) {
		for _, p := range []api.Part{{}, text("a"), field(1, 1), word(1, 1)} {
			p.Kind = kind
			part(t, p, false)
		}
	}
}

// rules are languages of these rules, one like the one ahead.
func rules(lists ...[]api.Rule) []api.Locale {
	l := many(len(lists))
	for i := range l {
		l[i].Parent, l[i].Rules = i-1, lists[i]
	}
	return l
}

// apart is l without Parents.
func apart(l []api.Locale) []api.Locale {
	l = slices.Clone(l)
	for i := range l {
		l[i].Parent = -1
	}
	return l
}

// P501: the rules of each language are gram.Check.
func TestRightRulesAlone(t *testing.T) {
	type list = []api.Rule
	for _, r := range []api.Rule{{}, pick(20, 1), pick(-1, 1), pick(0), pick(0, 20), pick(0, -62), pick(3, 3), pick(0, 1, 2, 3, 4, 5, 6, 7),
		{Rhs: []int{1}, Act: api.Act{P: []int{0}}, Cost: 101}, {Rhs: []int{1}, Act: api.Act{P: []int{0}}, Cost: -1},
		{Rhs: []int{1}, Act: api.Act{P: []int{1}}}, {Rhs: []int{1}}, {Rhs: []int{1}, Act: api.Act{Op: 16, P: []int{0}}}, pick(math.MaxInt, 1), pick(0, math.MinInt)} {
		right(t, rules(list{r}), false)
		right(t, rules(list{pick(0, 1), r, pick(1, 2)}), false)
		right(t, rules(list{r}, nil), false)
		right(t, rules(nil, list{r}), false)
		right(t, apart(rules(nil, list{r}, nil)), false)
	}
	six := make([]int, 6)
	right(t, rules(list{{Lhs: 19, Rhs: []int{-61, -1, 0, 19, -2, -50}, Act: api.Act{Op: api.AGroup, P: six}, Cost: 100}}), true)
	right(t, rules(list{{Lhs: 19, Rhs: six, Act: api.Act{Op: api.AGroup, P: make([]int, 7)}}}), false)
	right(t, rules(list{{Lhs: 19, Rhs: make([]int, 7), Act: api.Act{Op: api.AGroup, P: six}}}), false)
	right(t, rules(list{pick(0, 1), pick(1, 0)}), false)
}

// P501: rules that are a grammar alone, and none with a Parent's.
func TestRightRulesOfParents(t *testing.T) {
	type list = []api.Rule
	for _, l := range [][]api.Locale{
		rules(list{pick(0, 1)}, list{pick(1, 0)}),
		rules(list{pick(0, 1)}, nil, list{pick(1, 0)}),
		rules(list{pick(0, 1)}, list{pick(1, 2)}, list{pick(2, 0)}),
		rules(list{pick(0, 1)}, list{pick(1, 2)}, list{pick(2, 0)}, nil),
		rules(nil, list{pick(1, 2)}, list{pick(3, 4)}, list{pick(2, 1)}),
	} {
		right(t, l, false)
		right(t, apart(l), true)
	}
	right(t, rules(list{pick(0, 1)}, list{pick(1, 2)}, list{pick(0, 2)}), true)
	l := rules(nil, list{pick(0, 1)}, list{pick(1, 0)})
	l[2].Parent = 0 // two that are like a third one are not like one another
	right(t, l, true)
	l = rules(list{pick(0, 1)}, nil, list{pick(1, 0)})
	l[2].Parent = 0 // a Parent that is not the one ahead
	right(t, l, false)
}

// P501: there are no more than 60 rules, with all Parents', and no bound of its
// own.
func TestRightRulesCount(t *testing.T) {
	times := func(n int) []api.Rule { return slices.Repeat([]api.Rule{pick(0, 1)}, n) }
	for _, n := range []int{0, 1, 30, 31, 59, 60, 61, 62, 256} {
		right(t, rules(times(n)), n <= 60)
		right(t, rules(times(n), nil), n <= 60)
		right(t, rules(times(10), times(n)), 10+n <= 60)
		right(t, rules(times(n), times(10), times(20)), 30+n <= 60)
		right(t, apart(rules(times(60), times(n), times(60))), n <= 60)
	}
	ten := make([][]api.Rule, 10)
	for i := range ten {
		ten[i] = times(6)
	}
	right(t, rules(ten...), true)
	ten[4] = times(7)
	right(t, rules(ten...), false)
}
