package read_test

import (
	"math"
	"math/rand"
	"reflect"
	"slices"
	"sync"
	"testing"

	"interlocutor/act"
	"interlocutor/api"
	"interlocutor/read"
)

// roomy is a list with spare room behind it that is filled with x.
func roomy[T any](list []T, x T) []T {
	wide := append(slices.Clone(list), slices.Repeat([]T{x}, 8)...)
	return wide[:len(list):len(wide)]
}

// whole is all that a list has, its spare room too.
func whole[T any](list []T) []T { return slices.Clone(list[:cap(list)]) }

// roomyLocale is a language each list of which has spare room.
func roomyLocale(l api.Locale) api.Locale {
	l.Rules = roomy(l.Rules, rule(0, 0, num))
	for at := range l.Rules {
		r := &l.Rules[at]
		r.Rhs, r.Act.P = roomy(r.Rhs, 77), roomy(r.Act.P, 78)
	}
	l.Lex = roomy(l.Lex, is("7", month, 7))
	l.Styles = roomy([]api.Style{{Kind: api.VDate, Parts: roomy([]api.Part{{Kind: api.PNumber}}, api.Part{Kind: api.PText})}}, api.Style{})
	return l
}

// wholeLocale is all that a language has, the spare room of its lists too.
func wholeLocale(l api.Locale) api.Locale {
	l.Lex, l.Rules, l.Styles = whole(l.Lex), whole(l.Rules), whole(l.Styles)
	for at := range l.Rules {
		l.Rules[at].Rhs, l.Rules[at].Act.P = whole(l.Rules[at].Rhs), whole(l.Rules[at].Act.P)
	}
	for at := range l.Styles {
		l.Styles[at].Parts = whole(l.Styles[at].Parts)
	}
	return l
}

// spoken are texts of which several things are told, at the first of them one of
// each kind.
func spoken() []string {
	return []string{"3/4/25", "3", "3/4 to 5/6", "9:30 pm", "fri 9:30", "-1,234", "$5", "1a 1a", "2 days ago", "7 x", ""}
}

// P2: what is handed in is not changed, its spare room neither.
func TestNotChanged(t *testing.T) {
	l := roomyLocale(speech())
	was := wholeLocale(l)
	for _, s := range append(spoken(), "b") {
		runes := roomy(runesOf(s), 79)
		wasRunes := whole(runes)
		read.Readings(l, runes, leap())
		if !reflect.DeepEqual(wholeLocale(l), was) || !slices.Equal(whole(runes), wasRunes) {
			t.Errorf("P2: %q: something is changed", s)
		}
	}
	l = roomyLocale(having(rules(rule(0, 0, month)), alike("a", month, 0, 201)...))
	was = wholeLocale(l)
	if _, e := readAll(l, "a", leap()); e != api.Over || !reflect.DeepEqual(wholeLocale(l), was) {
		t.Errorf("P2: %v, or something is changed", e)
	}
}

// P2: what is handed in is not kept, and an answer is new memory, its spare room
// too; no two lists of it share any.
func TestNotKept(t *testing.T) {
	for _, s := range spoken() {
		l, runes := roomyLocale(speech()), roomy(runesOf(s), 79)
		first, _ := read.Readings(l, runes, leap())
		second, _ := read.Readings(l, runes, leap())
		want, was, wasRunes := told(speech(), s), wholeLocale(l), whole(runes)
		for at, x := range first {
			wide := x.V.F[:cap(x.V.F)]
			for i := range wide {
				wide[i] = -1000 - at
			}
		}
		for at, x := range first {
			if slices.ContainsFunc(x.V.F[:cap(x.V.F)], func(f int) bool { return f != -1000-at }) {
				t.Errorf("P2: %q: two lists of an answer share memory", s)
			}
		}
		clear(first[:cap(first)])
		if !reflect.DeepEqual(wholeLocale(l), was) || !slices.Equal(whole(runes), wasRunes) {
			t.Errorf("P2: %q: the answer is what was handed in", s)
		}
		clear(runes[:cap(runes)])
		for _, r := range l.Rules {
			clear(r.Rhs[:cap(r.Rhs)])
			clear(r.Act.P[:cap(r.Act.P)])
		}
		clear(l.Rules[:cap(l.Rules)])
		clear(l.Lex[:cap(l.Lex)])
		if got := answer(second, api.OK); got != want {
			t.Errorf("P2: %q: %s, not %s: two answers share memory, or hang on what was handed in", s, got, want)
		}
	}
}

// P2: no list and an empty one are the same.
func TestNilAndEmpty(t *testing.T) {
	for _, l := range []api.Locale{{}, {Lex: []api.Entry{}, Rules: []api.Rule{}, Styles: []api.Style{}}, speech()} {
		for _, runes := range [][]int{nil, {}} {
			if list, e := read.Readings(l, runes, leap()); len(list) > 0 || e != api.OK {
				t.Errorf("P2: %v, %v", list, e)
			}
		}
		if list, e := readAll(l, "x", leap()); len(list) > 0 || e != api.OK {
			t.Errorf("P2: %v, %v", list, e)
		}
	}
	l := having(rules(does(0, 0, api.AWhole, at(0), num)))
	l.Lex = []api.Entry{}
	expect(t, l, "7", "7,7,0:0")
}

// P3: the same is answered the next time, whatever was asked between, and by
// several at a time; Id, Parent, Digits and Styles don't matter.
func TestSameAgain(t *testing.T) {
	var want []string
	for _, s := range spoken() {
		want = append(want, told(speech(), s))
	}
	other := speech()
	other.Id, other.Parent, other.Digits, other.Styles = "other", 7, 3, []api.Style{{Kind: 99}}
	same := func(l api.Locale) {
		for at, s := range spoken() {
			if got := told(l, s); got != want[at] {
				t.Errorf("P3: %q: %s, not %s", s, got, want[at])
			}
		}
	}
	by := rand.New(rand.NewSource(3))
	for range 20 {
		readAll(varied(by), "3/4 b 1b", leap())
		readAll(speech(), "3/4", api.Moment{Y: 1 + by.Intn(9999), M: 1, D: 1})
		same(speech())
		same(other)
	}
	var several sync.WaitGroup
	for range 8 {
		several.Go(func() {
			for range 20 {
				same(speech())
			}
		})
	}
	several.Wait()
}

// P4: beside an error there is nothing, though something was found already.
func TestNothingBeside(t *testing.T) {
	l := speech()
	for s, value := range map[string]string{"b 3/4": "", "3/4 b": "", "3/4": "4,2024,3,4:4 4,2024,4,3:4"} {
		expect(t, l, s, value)
	}
	l.Lex = append(l.Lex, alike("b", weekday, -200, 300)...)
	l.Rules = append(l.Rules, rule(11, 0, weekday))
	for _, s := range []string{"b 3/4", "3/4 b", "3/4 to b"} {
		if list, e := readAll(l, s, leap()); e != api.Over || len(list) > 0 {
			t.Errorf("P4: %q: %v, %v", s, list, e)
		}
	}
	expect(t, l, "3/4", "4,2024,3,4:4 4,2024,4,3:4")
}

// P1, P8, P9: rules that gram.Check does not allow are refused, all of them.
func TestWrongRules(t *testing.T) {
	right := does(0, 5, api.AWhole, at(0), num)
	wrong := []api.Rule{{}, rule(20, 0, num), rule(-1, 0, num), rule(1, 101, num), rule(1, -1, num), rule(1, 0), rule(1, 0, num, num, num, num, num, num, num), rule(1, 0, 20), rule(1, 0, -62), rule(math.MinInt, 0, num), rule(math.MaxInt, 0, num), rule(1, 0, math.MinInt), rule(1, 0, math.MaxInt), rule(1, math.MaxInt, num), rule(1, math.MinInt, num),
		pick(1, 0, 1, num), pick(1, 0, -1, num), does(1, 0, api.APick, nil, num), does(1, 0, api.APick, at(0, 0), num), does(1, 0, 16, at(0), num), does(1, 0, -1, at(0), num), does(1, 0, math.MaxInt, at(0), num), does(1, 0, api.ADate, at(0, 0), num), does(1, 0, api.AGroup, at(0, 0, 0, 0, 0, 0, 0), num), rule(1, 0, 1), rule(0, 0, 0)}
	for _, r := range wrong {
		for _, l := range []api.Locale{having(rules(right, r)), having(rules(r, right)), having(rules(r))} {
			for _, s := range []string{"7", "7 7", ""} {
				if list, e := readAll(l, s, leap()); len(list) > 0 || e != api.OK {
					t.Errorf("P9: %v: %v, %v", l.Rules, list, e)
				}
			}
		}
	}
	expect(t, having(slices.Repeat(rules(right), 60)), "7", "7,7,0:5")
	expect(t, having(slices.Repeat(rules(right), 61)), "7", "")
	expect(t, having(rules(right, rule(1, 0, 2), rule(2, 0, 3), rule(3, 0, 1))), "7", "")
	expect(t, having(rules(right, rule(1, 0, 2), rule(2, 0, 3), rule(3, 0, 1, 1))), "7", "7,7,0:5")
}

// P1, P8: words, runes and moments that may not be are answered, too.
func TestWrongOthers(t *testing.T) {
	wild := []int{math.MinInt, math.MinInt + 1, -62, -2, -1, 0, 1, 50, 60, 61, 99, math.MaxInt - 1, math.MaxInt}
	for _, class := range wild {
		for _, text := range []string{"", " ", "a", "A", " a", "a ", "\xff", "7"} {
			l := speech()
			l.Lex = append(l.Lex, api.Entry{Text: text, Class: class, Value: class})
			l.Rules = append(l.Rules, rule(0, 0, 19), rule(19, 0, 18, 18), rule(17, 0, num), rule(17, 0, month))
			for _, s := range []string{"", "a", " a ", "a a", "7 a", "\xff", "7"} {
				if _, e := readAll(l, s, leap()); e != api.OK {
					t.Errorf("P8: %q: %v", s, e)
				}
			}
		}
	}
	for _, r := range wild {
		for _, runes := range [][]int{{r}, {r, r, r}, {0x37, r}, {r, 0x37}, {0x20, r, 0x20}, {0x33, 0x2f, r}} {
			if list, e := read.Readings(speech(), runes, leap()); e != api.OK || slices.ContainsFunc(list, func(x api.Reading) bool { return !act.Right(x.V) }) {
				t.Errorf("P8: %v: %v, %v", runes, list, e)
			}
		}
	}
	for _, n := range wild {
		for _, ref := range []api.Moment{{}, {Y: n, M: 1, D: 1}, {Y: 2024, M: n, D: 1}, {Y: 2024, M: 2, D: n}, {Y: n, M: n, D: n, H: n, I: n, S: n}} {
			for _, s := range append(spoken(), "1 years ago", "0 days ago", "9 jan 9") {
				list, e := readAll(speech(), s, ref)
				if e != api.OK || slices.ContainsFunc(list, func(x api.Reading) bool { return !act.Right(x.V) }) {
					t.Errorf("P8: %q from %v: %v, %v", s, ref, list, e)
				}
			}
		}
	}
	expect(t, having(rules(does(0, 0, api.AWhole, at(0), num)), is("", month, 1), is("", -1, 0)), "7", "7,7,0:0")
}
