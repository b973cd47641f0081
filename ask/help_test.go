package ask_test

import (
	"fmt"
	"slices"
	"strconv"
	"strings"
	"testing"
	"time"
	"unicode/utf8"

	"interlocutor/api"
	"interlocutor/ask"
	"interlocutor/blob"
	"interlocutor/fold"
	"interlocutor/read"
	"interlocutor/render"
)

// Classes as they stand in a rule's Rhs.
const (
	num = -1 - iota
	month
	unit
	sign
	currency
	half
	long
	weekday
	until
	odd
	cheap
	dear
	one
)

// Marks as they stand there.
const (
	slash = -1 - api.CMark - iota
	minus
	point
	comma
	colon
)

// at are places.
func at(p ...int) []int { return p }

// pick is a rule that picks its first; does is one of an action.
func pick(lhs, cost int, rhs ...int) api.Rule { return does(lhs, cost, api.APick, at(0), rhs...) }

func does(lhs, cost, op int, p []int, rhs ...int) api.Rule {
	return api.Rule{Lhs: lhs, Rhs: rhs, Act: api.Act{Op: op, P: p}, Cost: cost}
}

// word is an entry; part is what its class is in Rhs.
func word(part, value int, text string) api.Entry {
	return api.Entry{Text: text, Class: -1 - part, Value: value}
}

func value(kind int, f ...int) api.Value { return api.Value{Kind: kind, F: f} }

// style is one of parts; text, field and spelt are such.
func style(kind int, parts ...api.Part) api.Style { return api.Style{Kind: kind, Parts: parts} }

func text(s string) api.Part { return api.Part{Kind: api.PText, Text: s} }

func field(n, width int) api.Part { return api.Part{Kind: api.PNumber, Field: n, Width: width} }

func spelt(n, part int) api.Part { return api.Part{Kind: api.PWord, Field: n, Class: -1 - part} }

// dashed are the parts of a date whose fields are from n on.
func dashed(n int) []api.Part {
	return []api.Part{field(n, 4), text("-"), field(n+1, 2), text("-"), field(n+2, 2)}
}

// english is a language whose symbols are: 1 dates, 2 times, 3 decimals, 4 durations.
// Of dates and of decimals it has several styles, of moments none, of others one.
func english() api.Locale {
	return api.Locale{
		Id: "en", Parent: -1,
		Lex: []api.Entry{
			word(month, 1, "jan"), word(month, 2, "feb"), word(month, 2, "february"), word(month, 8, "août"), word(unit, 1, "days"), word(unit, 3, "months"), word(sign, 1, "from now"), word(sign, -1, "ago"),
			word(currency, 2, "usd"), word(currency, 2, "$"), word(currency, 10, "jpy"), word(half, 0, "am"), word(half, 1, "pm"), word(long, 1, "s"), word(long, 60, "m"), word(long, 3600, "h"), word(weekday, 4, "fri"), word(until, 0, "to"), word(until, 0, "-"), word(odd, 7, "\ufffd"), word(odd, 8, "日本"),
		},
		Rules: []api.Rule{
			pick(0, 0, 1), pick(0, 5, 2), pick(0, 1, 3), pick(0, 0, 4),
			does(0, 0, api.AMoment, at(0, 1), 1, 2), does(0, 0, api.ASpan, at(0, 2), 1, until, 1), does(0, 0, api.AMoney, at(0, 1), currency, 3), does(0, 1, api.AMoney, at(1, 0), 3, currency),
			does(0, 2, api.ADur, at(0, 0), odd), does(0, 0, api.ADur, at(1, 0), odd, num, odd),
			does(1, 0, api.ADate, at(0, 2, 4), num, minus, num, minus, num), does(1, 1, api.ADate, at(4, 0, 2), num, slash, num, slash, num), does(1, 2, api.ADate, at(4, 2, 0), num, slash, num, slash, num), does(1, 0, api.ADate, at(3, 0, 1), month, num, comma, num),
			does(1, 4, api.AThis, at(0, 2), num, slash, num), does(1, 4, api.AThis, at(2, 0), num, slash, num), does(1, 3, api.AThis, at(0, 1), month, num), does(1, 0, api.ARel, at(0, 1, 2), num, unit, sign), does(1, 0, api.ANext, at(0), weekday),
			does(2, 0, api.ATime, at(0, 2), num, colon, num), does(2, 0, api.ATime, at(0, 2, 4), num, colon, num, colon, num), does(2, 0, api.AHalf, at(0, 2, 3), num, colon, num, half), does(2, 0, api.AHalf, at(0, 1), num, half),
			does(3, 0, api.AWhole, at(0), num), does(3, 0, api.APoint, at(0, 2), num, point, num), does(3, 0, api.AGroup, at(0, 2), num, comma, num), does(3, 1, api.ANeg, at(1), minus, 3),
			does(4, 0, api.ADur, at(0, 1), num, long), does(4, 0, api.ASum, at(0, 1), 4, 4),
		},
		Styles: []api.Style{
			style(api.VDate, dashed(0)...),
			style(api.VTime, field(0, 2), text(":"), field(1, 2), text(":"), field(2, 2)),
			style(api.VDate, spelt(1, month), text(" "), field(2, 0), text(", "), field(0, 4)),
			style(api.VDec, field(0, 0), text("."), field(1, 1)),
			style(api.VMoney, spelt(0, currency), text(" "), field(1, 0), text("."), field(2, 0)),
			style(api.VDur, field(1, 0), text("h "), field(2, 2), text("M "), field(3, 0), text("s")),
			style(api.VDec, spelt(0, odd)),
			style(api.VSpan, slices.Concat(dashed(0), []api.Part{text(" To ")}, dashed(3))...),
			style(api.VDec, field(0, 3), text("\u2009")),
		},
	}
}

// languages are english, others that are like it, and one that is not.
func languages() []api.Locale {
	return []api.Locale{
		english(),
		{Id: "en-x", Parent: 0, Digits: 1, Lex: []api.Entry{word(month, 3, "مارس"), word(month, 1, "first")}, Styles: []api.Style{style(api.VMoment, field(3, 0), text("@"), field(1, 0)), style(api.VDate, field(1, 0))}},
		{Id: "en-x-y", Parent: 1, Digits: 2, Rules: []api.Rule{does(1, 9, api.AThis, at(0, 0), num)}},
		{Id: "lone", Parent: -1, Digits: 1},
		{Id: "9", Parent: 0, Digits: 3, Styles: []api.Style{style(api.VTime, spelt(0, half), text(":"), spelt(1, odd)), style(api.VDec, slices.Repeat([]api.Part{field(0, 0)}, 12)...)}},
	}
}

// speech is the bytes of languages.
func speech() []byte { return blob.Encode(languages()) }

// crowd is the bytes of a language "m" in which "a b" is durations of all these
// seconds, at a cost of 1 and at one of 2.
func crowd(ones, twos []int) []byte {
	words := []api.Entry{word(one, 1, "b")}
	for _, n := range ones {
		words = append(words, word(cheap, n, "a"))
	}
	for _, n := range twos {
		words = append(words, word(dear, n, "a"))
	}
	var all []api.Locale
	for some := range slices.Chunk(words, 30) {
		all = append(all, api.Locale{Id: "m" + strconv.Itoa(len(all)), Parent: len(all) - 1, Lex: some})
	}
	all[0].Rules = []api.Rule{does(0, 1, api.ADur, at(0, 1), cheap, one), does(0, 2, api.ADur, at(0, 1), dear, one)}
	all[0].Styles = []api.Style{style(api.VDur, field(0, 0), text("s"))}
	all[len(all)-1].Id = "m"
	return blob.Encode(all)
}

// row are n numbers, from first on.
func row(first, n int) []int {
	list := make([]int, n)
	for i := range list {
		list[i] = first + i
	}
	return list
}

// leap is what most is asked from.
func leap() api.Moment { return api.Moment{Y: 2024, M: 2, D: 29, H: 23, I: 59, S: 58} }

// coded is a value written out.
func coded(v api.Value) string {
	s := strconv.Itoa(v.Kind)
	for _, f := range v.F {
		s += "," + strconv.Itoa(f)
	}
	return s
}

// line is an answer written out: values, costs, texts, whether there are more, from
// where to where. Of no readings it is nothing, of an error its word.
func line(a ask.Answer, e api.Errno) string {
	if e != api.OK || len(a.L) == 0 {
		if len(a.L) > 0 || a.Cut || len(a.Texts) > 0 || a.From != 0 || a.To != 0 {
			return fmt.Sprintf("%v beside %v", a, e)
		}
		return strings.TrimPrefix(e.Error(), "ok")
	}
	if len(a.Texts) != len(a.L) {
		return fmt.Sprintf("%d readings, %d lists of texts", len(a.L), len(a.Texts))
	}
	var all []string
	for i, r := range a.L {
		all = append(all, fmt.Sprintf("%s:%d%q", coded(r.V), r.Cost, a.Texts[i]))
	}
	if a.Cut {
		all = append(all, "cut")
	}
	return strings.Join(append(all, fmt.Sprintf("%d-%d", a.From, a.To)), " ")
}

// told is what a text is answered.
func told(b []byte, id string, ref api.Moment, s string) string {
	return line(ask.Parse(b, id, ref, s))
}

// expect checks what a text is answered.
func expect(t *testing.T, b []byte, id, s, want string) {
	t.Helper()
	if got := told(b, id, leap(), s); got != want {
		t.Errorf("P1201: %s: %q: %s, not %s", id, s, got, want)
	}
}

// isMoment tells, by the library's calendar, whether a moment is one.
func isMoment(m api.Moment) bool {
	d := time.Date(m.Y, time.Month(m.M), m.D, m.H, m.I, m.S, 0, time.UTC)
	return d.Year() == m.Y && int(d.Month()) == m.M && d.Day() == m.D && d.Hour() == m.H && d.Minute() == m.I && d.Second() == m.S && m.Y >= 1 && m.Y <= 9999
}

// blanks are all signs that are folded to a blank.
const blanks = " \t\u00a0\u2000\u2001\u2002\u2003\u2004\u2005\u2006\u2007\u2008\u2009\u200a\u202f\u205f\u3000"

// bounds tells where the first sign begins that is none of those, and where the last
// one ends.
func bounds(s string) (from, to int) {
	from = len(s)
	for at := 0; at < len(s); {
		r, size := utf8.DecodeRuneInString(s[at:])
		if !strings.ContainsRune(blanks, r) {
			from, to = min(from, at), at+size
		}
		at += size
	}
	return from, to
}

// meant reads the words of Parse once more.
func meant(b []byte, id string, ref api.Moment, s string) string {
	all, isBlob := blob.Decode(b)
	l, isName := blob.Resolve(all, id)
	switch {
	case !isBlob:
		return "blob"
	case !isName:
		return "locale"
	case len(s) > 256:
		return "long"
	case !isMoment(ref):
		return "reference"
	}
	runes, _ := fold.Fold(s)
	list, e := read.Readings(l, runes, ref)
	if e != api.OK {
		return e.Error()
	}
	slices.SortStableFunc(list, func(x, y api.Reading) int { return x.Cost - y.Cost })
	return meantLine(l, list, s)
}

// meantLine is the line of these readings, of which there may be too many.
func meantLine(l api.Locale, list []api.Reading, s string) string {
	if len(list) == 0 {
		return ""
	}
	out := ""
	for _, r := range list[:min(len(list), 64)] {
		texts := []string{}
		for place, x := range l.Styles {
			if x.Kind != r.V.Kind {
				continue
			}
			text, e := render.Write(l, place, r.V)
			if e != api.OK {
				text = ""
			}
			texts = append(texts, text)
		}
		out += fmt.Sprintf("%s:%d%q ", coded(r.V), r.Cost, texts)
	}
	if len(list) > 64 {
		out += "cut "
	}
	from, to := bounds(s)
	return out + fmt.Sprintf("%d-%d", from, to)
}

// written is what a value is answered, and the error's word.
func written(b []byte, id string, style int, v api.Value) string {
	s, e := ask.Render(b, id, style, v)
	return s + " " + e.Error()
}

// meantWritten reads the words of Render once more.
func meantWritten(b []byte, id string, style int, v api.Value) string {
	all, is := blob.Decode(b)
	if !is {
		return " blob"
	}
	l, is := blob.Resolve(all, id)
	if !is {
		return " locale"
	}
	s, e := render.Write(l, style, v)
	return s + " " + e.Error()
}
