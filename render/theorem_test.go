package render_test

import (
	"slices"
	"testing"

	"interlocutor/api"
	"interlocutor/blob"
	"interlocutor/fold"
	"interlocutor/rank"
	"interlocutor/read"
	"interlocutor/render"
)

// made is a rule of an action.
func made(lhs, op int, p []int, rhs ...int) api.Rule {
	return api.Rule{Lhs: lhs, Rhs: rhs, Act: api.Act{Op: op, P: p}}
}

// Classes of rules: words, marks.
const (
	aNumber = -1 - iota
	aMonth
	aCurrency
	aUnit
	aTill
)

const (
	aDash  = -2 - api.CMark
	aPoint = -3 - api.CMark
	aComma = -4 - api.CMark
	aColon = -5 - api.CMark
)

// spoken are languages of which each may read what it writes: the first, and one
// like it for each system of digits.
func spoken() []api.Locale {
	first := api.Locale{Id: "first", Parent: -1}
	for i, s := range []string{"jan", "feb", "mar", "apr", "may", "jun", "jul", "aug", "sep", "oct", "nov", "dec"} {
		first.Lex = append(first.Lex, entry(1, i+1, s))
	}
	first.Lex = append(first.Lex, entry(2, 500, "jpy"), entry(2, 2, "usd"), entry(2, 19, "nine"), entry(2, 2, "$"), entry(3, 1, "s"), entry(3, 60, "m"), entry(3, 3600, "h"), entry(4, 0, "to"))
	first.Rules = []api.Rule{
		made(0, api.APick, []int{0}, 1), made(0, api.APick, []int{0}, 2), made(0, api.APick, []int{0}, 3), made(0, api.APick, []int{0}, 4), made(0, api.APick, []int{0}, 5), made(0, api.APick, []int{0}, 6), made(0, api.APick, []int{0}, 7),
		made(1, api.ADate, []int{0, 2, 4}, aNumber, aDash, aNumber, aDash, aNumber), made(1, api.ADate, []int{3, 0, 1}, aMonth, aNumber, aComma, aNumber),
		made(2, api.ATime, []int{0, 2, 4}, aNumber, aColon, aNumber, aColon, aNumber),
		made(3, api.AMoment, []int{0, 1}, 1, 2),
		made(4, api.AWhole, []int{0}, aNumber), made(4, api.APoint, []int{0, 2}, aNumber, aPoint, aNumber), made(4, api.ANeg, []int{1}, aDash, 4),
		made(5, api.AMoney, []int{0, 1}, aCurrency, 4),
		made(6, api.ADur, []int{0, 1}, aNumber, aUnit), made(6, api.ASum, []int{0, 1}, 6, 6),
		made(7, api.ASpan, []int{0, 2}, 1, aTill, 1),
	}
	date := func(from, width int) []api.Part {
		return []api.Part{number(from, 4), text("-"), number(from+1, width), text("-"), number(from+2, width)}
	}
	hours := func(from int) []api.Part {
		return []api.Part{number(from, 2), text(":"), number(from+1, 2), text(":"), number(from+2, 2)}
	}
	first.Styles = []api.Style{
		style(api.VDate, date(0, 2)...), style(api.VDate, date(0, 0)...), style(api.VDate, word(1, 1), text(" "), number(2, 0), text(", "), number(0, 9)),
		style(api.VTime, hours(0)...), style(api.VMoment, slices.Concat(date(0, 2), []api.Part{text(" ")}, hours(3))...), style(api.VSpan, slices.Concat(date(0, 0), []api.Part{text(" to ")}, date(3, 2))...),
		style(api.VDec, number(0, 0)), style(api.VDec, number(0, 0), text("."), number(1, 0)),
		style(api.VMoney, word(0, 2), text(" "), number(1, 0)), style(api.VMoney, word(0, 2), text(" "), number(1, 2), text("."), number(2, 0)),
		style(api.VDur, number(0, 9), text(" s")), style(api.VDur, number(1, 0), text("h "), number(2, 2), text("M "), number(3, 2), text("S")),
	}
	all := []api.Locale{first}
	for system, id := range []string{"like-0", "like-1", "like-2", "like-3"} {
		all = append(all, api.Locale{Id: id, Digits: system, Styles: []api.Style{style(api.VTime, hours(0)...)}})
	}
	return all
}

// isWholly tells whether a style writes all that a value is: its digits behind the
// point just where it has some.
func isWholly(v api.Value, s api.Style) bool {
	switch v.Kind {
	case api.VDec:
		return (len(s.Parts) == 1) == (v.F[1] == 0)
	case api.VMoney:
		return (len(s.Parts) == 3) == (v.F[0]%10 == 0)
	}
	return true
}

// T2: a value that a language writes, it may read so; languages as their bytes tell
// them.
func TestThereAndBack(t *testing.T) {
	all, is := blob.Decode(blob.Encode(spoken()))
	if !is {
		t.Fatal("P502: no languages")
	}
	ref := api.Moment{Y: 2024, M: 2, D: 29}
	count := map[int]int{}
	for _, x := range all {
		l, _ := blob.Resolve(all, x.Id)
		for _, v := range pool() {
			for _, at := range render.Styles(l, v.Kind) {
				s, e := render.Write(l, at, v)
				if isNamed := v.Kind != api.VMoney || v.F[0] == 500 || v.F[0] == 2 || v.F[0] == 19; (e == api.OK) != isNamed {
					t.Fatalf("P1101: %v in style %d of %s: %q, %v", v, at, l.Id, s, e)
				}
				if e != api.OK || !isWholly(v, l.Styles[at]) {
					continue
				}
				count[v.Kind]++
				runes, _ := fold.Fold(s)
				readings, over := read.Readings(l, runes, ref)
				if !slices.ContainsFunc(readings, func(r api.Reading) bool { return rank.Cmp(r.V, v) == 0 }) {
					t.Errorf("T2: %v in style %d of %s: %q is read as %v, %v", v, at, l.Id, s, readings, over)
				}
			}
		}
	}
	for kind := api.VDate; kind <= api.VSpan; kind++ {
		if count[kind] < 15 {
			t.Errorf("T2: only %d values of kind %d were written", count[kind], kind)
		}
	}
}

// P1101: of a resolved language the Parent's styles are ahead of its own, and the
// words of both are there.
func TestResolved(t *testing.T) {
	all := []api.Locale{
		{Id: "a", Parent: -1, Lex: []api.Entry{entry(1, 2, "two")}, Styles: []api.Style{style(api.VDate, word(1, 1)), style(api.VTime, text("x"))}},
		{Id: "b", Parent: 0, Digits: 1, Lex: []api.Entry{entry(1, 2, "zwei"), entry(1, 3, "drei")}, Styles: []api.Style{style(api.VDate, number(2, 2), text(" "), word(1, 1))}},
	}
	a, _ := blob.Resolve(all, "a")
	b, is := blob.Resolve(all, "b")
	if places := render.Styles(b, api.VDate); !is || !slices.Equal(places, []int{0, 2}) {
		t.Errorf("P1101: Styles of b: %v", places)
	}
	writes(t, a, 0, value(api.VDate, 2024, 2, 9), "two ok")
	writes(t, a, 0, value(api.VDate, 2024, 3, 9), " style")
	writes(t, a, 2, value(api.VDate, 2024, 2, 9), " style")
	writes(t, b, 0, value(api.VDate, 2024, 2, 9), "two ok")
	writes(t, b, 0, value(api.VDate, 2024, 3, 9), "drei ok")
	writes(t, b, 2, value(api.VDate, 2024, 3, 9), "٠٩ drei ok")
}
