package render_test

import (
	"fmt"
	"math"
	"math/rand"
	"reflect"
	"slices"
	"strings"
	"sync"
	"testing"

	"interlocutor/api"
	"interlocutor/render"
)

// roomy is a list with spare room behind it that is filled with x.
func roomy[T any](list []T, x T) []T {
	wide := append(slices.Clone(list), slices.Repeat([]T{x}, 8)...)
	return wide[:len(list):len(wide)]
}

// whole is all that a list has, its spare room too.
func whole[T any](list []T) []T { return slices.Clone(list[:cap(list)]) }

// spoil writes x over all that a list has, its spare room too.
func spoil[T any](list []T, x T) {
	list = list[:cap(list)]
	for i := range list {
		list[i] = x
	}
}

// roomyLanguage is one of several styles, each list with spare room behind it.
func roomyLanguage() api.Locale {
	odd := style(api.VDate, roomy([]api.Part{text("odd")}, text("odd"))...)
	l := language(2,
		style(api.VDate, roomy([]api.Part{word(1, 1), text(" "), number(2, 2)}, text("spare"))...),
		style(api.VTime, roomy([]api.Part{number(0, 2), text("."), number(1, 2)}, text("spare"))...),
		style(api.VDate, roomy([]api.Part{number(0, 4), word(0, 9)}, text("spare"))...),
		style(api.VDec, roomy([]api.Part{number(0, 0), text("."), number(1, 2)}, text("spare"))...),
		style(api.VMoney, roomy([]api.Part{word(0, 1), number(1, 2), number(2, 2)}, text("spare"))...),
		style(api.VDur, roomy([]api.Part{number(1, 2), number(2, 2)}, text("spare"))...),
		style(api.VDate, roomy([]api.Part{text(strings.Repeat("x", 257))}, text("spare"))...),
	)
	l.Lex, l.Styles = roomy(l.Lex, entry(9, 2024, "spare")), roomy(l.Styles, odd)
	l.Rules = roomy([]api.Rule{{Lhs: 1, Rhs: roomy([]int{-1}, 7), Act: api.Act{P: roomy([]int{0}, 7)}}}, api.Rule{Lhs: 9})
	return l
}

// wholeLanguage is a language with all spare room of its lists.
func wholeLanguage(l api.Locale) api.Locale {
	l.Lex, l.Styles, l.Rules = whole(l.Lex), whole(l.Styles), whole(l.Rules)
	for i := range l.Styles {
		l.Styles[i].Parts = whole(l.Styles[i].Parts)
	}
	for i := range l.Rules {
		l.Rules[i].Rhs, l.Rules[i].Act.P = whole(l.Rules[i].Rhs), whole(l.Rules[i].Act.P)
	}
	return l
}

// spoilLanguage writes over all that a language has.
func spoilLanguage(l api.Locale) {
	for _, s := range l.Styles[:cap(l.Styles)] {
		spoil(s.Parts, text("spoilt"))
	}
	spoil(l.Styles, style(api.VDate, text("spoilt")))
	spoil(l.Lex, entry(1, 2, "spoilt"))
}

// roomyValues are values, right and not, with spare room behind their fields.
func roomyValues() []api.Value {
	list := []api.Value{value(api.VDate, 2024, 2, 9), value(api.VDate, 2024, 3, 9), value(api.VDate, 2024, 2, 30), value(api.VTime, 9, 5, 30), value(api.VDec, -15, 1), value(api.VDec, 150, 2), value(api.VMoney, 2, -5), value(api.VMoney, 5, 7), value(api.VDur, 9000), value(api.VSpan, 2024, 2, 9, 2024, 3, 1), value(api.VNumber, 5, 1), {}}
	for i := range list {
		list[i].F = roomy(list[i].F, 1)
	}
	return list
}

// everything is all that is told of a language.
func everything(l api.Locale) string {
	out := ""
	for kind := -1; kind < 12; kind++ {
		out += fmt.Sprint(len(render.Styles(l, kind)), render.Styles(l, kind))
	}
	for _, v := range roomyValues() {
		for at := -1; at < 9; at++ {
			out += "|" + told(l, at, v)
		}
	}
	return out
}

// P2: what is handed in is not changed, its spare room neither.
func TestNotChanged(t *testing.T) {
	l, values := roomyLanguage(), roomyValues()
	was, fields := wholeLanguage(l), [][]int{}
	for _, v := range values {
		fields = append(fields, whole(v.F))
	}
	for kind := -1; kind < 12; kind++ {
		render.Styles(l, kind)
	}
	for i, v := range values {
		for at := -1; at < 9; at++ {
			render.Write(l, at, v)
			if !slices.Equal(whole(v.F), fields[i]) {
				t.Fatalf("P2: Write has changed %v to %v", fields[i], whole(v.F))
			}
		}
	}
	if got := wholeLanguage(l); !reflect.DeepEqual(got, was) {
		t.Errorf("P2: %v has become %v", was, got)
	}
}

// P2: what was handed in may be written over, and what was told, too: neither hangs
// on the other, nor on what is told the next time.
func TestNotKept(t *testing.T) {
	l := roomyLanguage()
	want := everything(l)
	v := roomyValues()[0]
	text, _ := render.Write(l, 0, v)
	first, second := render.Styles(l, api.VDate), render.Styles(l, api.VDate)
	if fmt.Sprint(first) != "[0 2 6]" || text != "two ۰۹" {
		t.Fatalf("P1101: %v, %q", first, text)
	}
	spoil(first, 77)
	if fmt.Sprint(second) != "[0 2 6]" {
		t.Errorf("P2: two answers of Styles share memory: %v", second)
	}
	if got := everything(l); got != want {
		t.Errorf("P2: Styles tells something of the language's: %s, not %s", got, want)
	}
	spoilLanguage(l)
	spoil(v.F, 1)
	if fmt.Sprint(second) != "[0 2 6]" || text != "two ۰۹" {
		t.Errorf("P2: what was told hangs on what was handed in: %v, %q", second, text)
	}
	if got := told(l, 0, value(api.VDate, 2024, 2, 9)); got != "spoilt ok" {
		t.Errorf("P2: a style was kept: %q", got)
	}
	if got := everything(roomyLanguage()); got != want {
		t.Errorf("P2: something was kept: %s, not %s", got, want)
	}
}

// P2: no list and an empty one are the same, and what stands in spare room is not
// told.
func TestNilAndEmpty(t *testing.T) {
	v := value(api.VDate, 2024, 2, 9)
	l := language(0, style(api.VDate), api.Style{Kind: api.VDate, Parts: []api.Part{}}, api.Style{Kind: api.VDate, Parts: []api.Part{text("spare")}[:0]}, style(api.VDate, word(1, 1)))
	for _, words := range [][]api.Entry{nil, {}, []api.Entry{entry(1, 2, "spare")}[:0]} {
		l.Lex = words
		for at := range 3 {
			writes(t, l, at, v, " ok")
		}
		writes(t, l, 3, v, " style")
	}
	spare := []int{2024, 2, 9}
	for _, f := range [][]int{nil, {}, spare[:0]} {
		writes(t, l, 0, api.Value{Kind: api.VDate, F: f}, " range")
	}
	writes(t, l, 0, api.Value{Kind: api.VDate, F: spare[:2]}, " range")
}

// P3, P7: the same is answered the next time, whatever was asked meanwhile, by others
// side by side, too.
func TestSameAgain(t *testing.T) {
	values := pool()
	same := func(seed int64) {
		by := rand.New(rand.NewSource(seed))
		v, other := values[by.Intn(len(values))], values[by.Intn(len(values))]
		l := language(by.Intn(4), style(v.Kind, someParts(by, v)...), style(v.Kind, number(0, 9), text("x")))
		third := language(by.Intn(4), style(other.Kind, someParts(by, other)...))
		for at := range l.Styles {
			want := told(l, at, v)
			told(third, 0, other)
			told(third, 1, other)
			if got := told(l, at, v); got != want {
				t.Errorf("P3: %v of %v: %q, not %q", v, l.Styles[at], got, want)
			}
		}
	}
	var several sync.WaitGroup
	for seed := range int64(8) {
		several.Go(func() {
			for i := range int64(500) {
				same(1000*seed + i)
			}
		})
	}
	several.Wait()
	shared, want := roomyLanguage(), everything(roomyLanguage())
	for range 8 {
		several.Go(func() {
			if got := everything(shared); got != want {
				t.Errorf("P3: side by side: %s, not %s", got, want)
			}
		})
	}
	several.Wait()
}

// P8, P9: digits that there are not are refused where a number asks for them.
func TestWrongDigits(t *testing.T) {
	v := value(api.VDate, 2024, 2, 9)
	for _, system := range append(extremes(), 4, 5, -2, 48) {
		if system == 0 || system == 1 {
			continue
		}
		for width := range 4 {
			writes(t, language(system, style(api.VDate, text("x"), number(1, width), text("y"))), 0, v, " style")
			writes(t, language(system, style(api.VDec, number(0, width))), 0, value(api.VDec, -5, 1), " style")
		}
		writes(t, language(system, style(api.VDate, text("x"), word(1, 1))), 0, v, "xtwo ok")
	}
}

// P8, P9: parts of a kind that there is not are refused.
func TestWrongParts(t *testing.T) {
	v := value(api.VDate, 2024, 2, 9)
	for _, kind := range append(extremes(), 3, 4, -2) {
		if kind == 0 || kind == 1 {
			continue
		}
		for _, p := range []api.Part{{Kind: kind}, {Kind: kind, Text: "x", Field: 1, Class: 1, Width: 1}, {Kind: kind, Field: 9}} {
			expect(t, v, " style", p)
			expect(t, v, " style", text("x"), p, text("y"))
			expect(t, v, " style", p, text(strings.Repeat("x", 257)))
			expect(t, value(api.VDate, 2024, 2, 30), " range", p)
		}
	}
}

// P1, P8: a Width below 0 asks for no noughts, one that is too great for too many
// bytes.
func TestWrongWidth(t *testing.T) {
	for _, v := range []api.Value{value(api.VDec, 7, 0), value(api.VDec, -75, 1), value(api.VDec, most, 18), value(api.VDur, 0)} {
		for _, width := range []int{math.MinInt, math.MinInt + 1, math.MinInt + 18, -257, -1} {
			for field := range 2 {
				writes(t, language(0, style(v.Kind, number(field, width))), 0, v, meant(language(0, style(v.Kind, number(field, 0))), 0, v))
			}
		}
		for _, width := range []int{10, 18, 19, 100, 255, 256, 257, 258, 1000} {
			for field := range 2 {
				l := language(0, style(v.Kind, number(field, width)))
				writes(t, l, 0, v, meant(l, 0, v))
			}
		}
		for _, width := range []int{1 << 31, 1 << 40, math.MaxInt - 1, math.MaxInt} {
			for field := range 2 {
				writes(t, language(3, style(v.Kind, number(field, width), text("x"))), 0, v, " range")
				writes(t, language(3, style(v.Kind, text("x"), number(field, width), word(9, 9))), 0, v, " style")
			}
		}
	}
	for _, width := range append(extremes(), 257) {
		expect(t, value(api.VMoney, 2, -5), "05 ok", number(2, width))
		expect(t, value(api.VMoney, 0, -5), " ok", number(2, width))
	}
}

// P8: words that may not be, and kinds of styles, are taken as they are.
func TestWrongWords(t *testing.T) {
	v := value(api.VDec, -most, 0)
	for _, class := range extremes() {
		l := language(0, style(api.VDec, word(0, class)), style(api.VDec, word(1, class)))
		writes(t, l, 1, v, map[bool]string{true: "null ok", false: " style"}[class == 1])
		l.Lex = []api.Entry{entry(class, math.MinInt, "least"), entry(class, math.MaxInt, "greatest"), entry(class, most, "above"), entry(class, -most, ""), entry(class, -most, "second"), entry(class, 0, strings.Repeat("y", 256))}
		writes(t, l, 0, v, " ok")
		writes(t, l, 1, v, strings.Repeat("y", 256)+" ok")
		l.Lex[5].Text += "\xff"
		writes(t, l, 1, v, " range")
		l.Lex = l.Lex[:3]
		writes(t, l, 0, v, " style")
	}
	for _, kind := range []int{math.MinInt, -1, 0, 1, 2, 3, 11, math.MaxInt} {
		l := language(0, style(kind, text("x")), style(api.VDate, text("y")), style(kind, number(0, 0)))
		if got := fmt.Sprint(render.Styles(l, kind)); got != "[0 2]" {
			t.Errorf("P1101: Styles %d: %s", kind, got)
		}
		for _, f := range [][]int{nil, {1}, {3, 1}, {2024, 2, 9}} {
			writes(t, l, 0, value(kind, f...), " range")
			writes(t, l, 1, value(kind, f...), " style")
			writes(t, l, 2, value(kind, f...), " range")
		}
	}
}

// P1: much of everything ends soon.
func TestMuch(t *testing.T) {
	v := value(api.VDec, -most, 9)
	var parts []api.Part
	for range 100_000 {
		parts = append(parts, number(0, 9), text(strings.Repeat("x", 1000)), number(1, math.MaxInt))
	}
	writes(t, language(1, style(api.VDec, parts...)), 0, v, " range")
	writes(t, language(1, style(api.VDec, append(parts, word(5, 5))...)), 0, v, " style")
	writes(t, language(1, style(api.VDec, slices.Repeat([]api.Part{text("")}, 300_000)...)), 0, v, " ok")
	l := language(0, slices.Repeat([]api.Style{style(api.VDec, word(1, 6))}, 300_000)...)
	l.Lex = append(slices.Repeat([]api.Entry{entry(6, 9, "nine")}, 1_000_000), entry(6, 999_999_999, "many"))
	writes(t, l, 299_999, v, "many ok")
	if n := len(render.Styles(l, api.VDec)); n != 300_000 {
		t.Errorf("P1101: %d styles", n)
	}
	writes(t, l, 0, value(api.VDec, make([]int, 1_000_000)...), " range")
}

// P1, P4: whatever there is, it is answered by one of the words, with no text beside
// an error, and with no more than 256 bytes.
func TestAnything(t *testing.T) {
	by := rand.New(rand.NewSource(11))
	any := append(extremes(), 2, 3, 4, 5, 6, 7, 8, 9, 10, 11, 60, 2024, most, most+1, -most, longest)
	some := func() int { return any[by.Intn(len(any))] }
	texts := []string{"", "x", "\xff", strings.Repeat("y", 99), strings.Repeat("z", 300)}
	values := pool()
	for range 200_000 {
		l := api.Locale{Parent: some(), Digits: by.Intn(6) - 1}
		for range by.Intn(6) {
			l.Lex = append(l.Lex, entry(some(), some(), texts[by.Intn(5)]))
		}
		v := values[by.Intn(len(values))]
		if by.Intn(3) == 0 {
			v = value(by.Intn(13)-1, some(), some(), some(), some(), some(), some())
			v.F = v.F[:by.Intn(7)]
		}
		for range by.Intn(4) {
			var parts []api.Part
			for range by.Intn(5) {
				parts = append(parts, api.Part{Kind: by.Intn(5) - 1, Text: texts[by.Intn(5)], Field: by.Intn(8) - 1, Width: some(), Class: some()})
			}
			l.Styles = append(l.Styles, style(v.Kind, parts...))
		}
		at := by.Intn(5) - 1
		if s, e := render.Write(l, at, v); e != api.OK && e != api.NoStyle && e != api.OutOfRange || e != api.OK && s != "" || len(s) > 256 {
			t.Fatalf("P4: %v in style %d of %v: %q, %v", v, at, l, s, e)
		}
		for _, place := range render.Styles(l, v.Kind) {
			if l.Styles[place].Kind != v.Kind {
				t.Fatalf("P1101: %v of %v", place, l.Styles)
			}
		}
	}
}
