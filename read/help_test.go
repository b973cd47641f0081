package read_test

import (
	"slices"
	"strconv"
	"strings"
	"testing"

	"interlocutor/act"
	"interlocutor/api"
	"interlocutor/fold"
	"interlocutor/lex"
	"interlocutor/read"
)

// Classes as they stand in a rule's Rhs.
const (
	num      = -1
	month    = -2
	unit     = -3
	sign     = -4
	currency = -5
	half     = -6
	long     = -7
	weekday  = -8
	until    = -9
	slash    = -51
	minus    = -52
	point    = -53
	comma    = -54
	colon    = -55
)

// at are places.
func at(p ...int) []int { return p }

// rule is one that picks its first.
func rule(lhs, cost int, rhs ...int) api.Rule { return pick(lhs, cost, 0, rhs...) }

func pick(lhs, cost, p int, rhs ...int) api.Rule { return does(lhs, cost, api.APick, at(p), rhs...) }

func does(lhs, cost, op int, p []int, rhs ...int) api.Rule {
	return api.Rule{Lhs: lhs, Rhs: rhs, Act: api.Act{Op: op, P: p}, Cost: cost}
}

// is is a word; part is what a class is in Rhs.
func is(text string, part, value int) api.Entry {
	return api.Entry{Text: text, Class: -1 - part, Value: value}
}

// alike are words of one text and class, of so many values from first on.
func alike(text string, part, first, many int) []api.Entry {
	var words []api.Entry
	for k := range many {
		words = append(words, is(text, part, first+k))
	}
	return words
}

// having is a language of these rules and words.
func having(rules []api.Rule, words ...api.Entry) api.Locale {
	return api.Locale{Parent: -1, Lex: words, Rules: rules}
}

// rules is a list of some.
func rules(list ...api.Rule) []api.Rule { return list }

// speech is a language that has an action of each kind. What its symbols are: 1
// dates, 2 times, 3 decimals, 4 durations, 5 numbers, 6 those of groups.
func speech() api.Locale {
	return having(rules(
		rule(0, 0, 1), rule(0, 5, 2), rule(0, 1, 3), rule(0, 0, 4),
		does(0, 0, api.AMoment, at(0, 1), 1, 2), does(0, 2, api.ASpan, at(0, 2), 1, until, 1), does(0, 0, api.AMoney, at(0, 1), currency, 3), does(0, 3, api.AMoney, at(1, 0), 3, currency),
		does(1, 1, api.ADate, at(4, 0, 2), num, slash, num, slash, num), does(1, 2, api.ADate, at(4, 2, 0), num, slash, num, slash, num), does(1, 0, api.ADate, at(0, 1, 2), num, month, num),
		does(1, 4, api.AThis, at(0, 2), num, slash, num), does(1, 4, api.AThis, at(2, 0), num, slash, num), does(1, 3, api.AThis, at(0, 1), month, num),
		does(1, 0, api.ARel, at(0, 1, 2), 5, unit, sign), does(1, 0, api.ANext, at(0), weekday), does(1, 6, api.AThis, at(0, 0), num),
		does(2, 0, api.ATime, at(0, 2), num, colon, num), does(2, 0, api.ATime, at(0, 2, 4), num, colon, num, colon, num), does(2, 0, api.AHalf, at(0, 1), num, half), does(2, 1, api.AHalf, at(0, 2, 3), num, colon, num, half),
		does(3, 0, api.AWhole, at(0), num), does(3, 0, api.APoint, at(0, 2), 5, point, num), does(3, 0, api.AGroup, at(0, 2), 6, comma, num), does(3, 0, api.AGroup, at(0, 2, 4), num, comma, num, comma, num), does(3, 1, api.ANeg, at(1), minus, 3),
		does(4, 0, api.ADur, at(0, 1), num, long), does(4, 1, api.ASum, at(0, 1), 4, 4), does(4, 9, api.ADur, at(0, 0), long),
		rule(5, 0, num), rule(5, 7, month), rule(6, 0, num), pick(6, 2, 1, minus, num),
	), append(alike("a", long, 1, 3),
		is("jan", month, 1), is("feb", month, 2), is("dec", month, 12), is("days", unit, 1), is("weeks", unit, 2), is("months", unit, 3), is("years", unit, 4), is("from now", sign, 1), is("ago", sign, -1),
		is("usd", currency, 2), is("$", currency, 2), is("jpy", currency, 10), is("am", half, 0), is("pm", half, 1), is("m", long, 60), is("h", long, 3600), is("fri", weekday, 4), is("to", until, 0), is("-", until, 0), is("m", month, 3), is("m", weekday, 0),
	)...)
}

// leap is what most is asked from.
func leap() api.Moment { return api.Moment{Y: 2024, M: 2, D: 29, H: 23, I: 59, S: 58} }

// runesOf are a text's runes.
func runesOf(s string) []int {
	runes, _ := fold.Fold(s)
	return runes
}

// value is one written out: its kind, its fields.
func value(v api.Value) string {
	s := strconv.Itoa(v.Kind)
	for _, f := range v.F {
		s += "," + strconv.Itoa(f)
	}
	return s
}

// answer is what is told, written out: values and costs, or the error's word.
func answer(list []api.Reading, e api.Errno) string {
	if e != api.OK {
		return e.Error()
	}
	var all []string
	for _, x := range list {
		all = append(all, value(x.V)+":"+strconv.Itoa(x.Cost))
	}
	return strings.Join(all, " ")
}

// told is what a text is answered.
func told(l api.Locale, s string) string {
	return answer(read.Readings(l, runesOf(s), leap()))
}

// expect checks what a text is answered.
func expect(t *testing.T, l api.Locale, s, want string) {
	t.Helper()
	if got := told(l, s); got != want {
		t.Errorf("P901: %q: %s, not %s", s, got, want)
	}
}

// tree is a derivation, by what comes of it.
type tree struct {
	values []api.Value
	cost   int
}

// plain reads by W4's words: each derivation is made by itself.
type plain struct {
	rules []api.Rule
	signs map[[3]int][]tree // by class, from, to
	ref   api.Moment
	known map[[3]int][]tree
}

func newPlain(l api.Locale, runes []int, ref api.Moment) plain {
	p := plain{l.Rules, map[[3]int][]tree{}, ref, map[[3]int][]tree{}}
	for _, x := range lex.Tokens(l, runes) {
		key := [3]int{x.Class, x.From, x.To}
		p.signs[key] = append(p.signs[key], tree{[]api.Value{act.Sign(x)}, 0})
	}
	return p
}

// mostTrees is more of them than are made for a test.
const mostTrees = 5000

// of are the derivations of a symbol, of one value each.
func (p plain) of(sym, from, to int) []tree {
	key := [3]int{sym, from, to}
	if all, is := p.known[key]; is {
		return all
	}
	var all []tree
	for _, r := range p.rules {
		if r.Lhs != sym {
			continue
		}
		for _, x := range p.row(r.Rhs, from, to) {
			if v, is := act.Do(r.Act, x.values, p.ref); is {
				all = append(all, tree{[]api.Value{v}, r.Cost + x.cost})
			}
		}
	}
	p.known[key] = all
	return all
}

// row are derivations of parts, one behind the other, of as many values.
func (p plain) row(parts []int, from, to int) []tree {
	if len(parts) == 0 {
		if from == to {
			return []tree{{}}
		}
		return nil
	}
	var all []tree
	for mid := from + 1; mid <= to-len(parts)+1; mid++ {
		heads := p.part(parts[0], from, mid)
		if len(heads) == 0 {
			continue
		}
		rest := p.row(parts[1:], mid, to)
		for _, x := range heads {
			for _, y := range rest {
				if len(all) > mostTrees {
					return all
				}
				all = append(all, tree{slices.Concat(x.values, y.values), x.cost + y.cost})
			}
		}
	}
	return all
}

// part are those of a symbol or a class.
func (p plain) part(part, from, to int) []tree {
	if part >= 0 {
		return p.of(part, from, to)
	}
	return p.signs[[3]int{-1 - part, from, to}]
}

// ahead holds readings against each other, by kind, how many fields, fields.
func ahead(a, b api.Reading) int {
	list := func(v api.Value) []int { return append([]int{v.Kind, len(v.F)}, v.F...) }
	return slices.Compare(list(a.V), list(b.V))
}

// meant is what a text must be answered, by P901's words; false: it has more
// derivations than are made for a test.
func meant(l api.Locale, s string, ref api.Moment) (string, bool) {
	runes := runesOf(s)
	p := newPlain(l, runes, ref)
	e := api.OK
	for from := range runes {
		for to := from + 1; to <= len(runes); to++ {
			for sym := range api.MaxNon {
				values := map[string]bool{}
				trees := p.of(sym, from, to)
				if len(trees) > mostTrees {
					return "", false
				}
				for _, x := range trees {
					values[value(x.values[0])] = true
				}
				if len(values) > 200 {
					e = api.Over
				}
			}
		}
	}
	if e != api.OK {
		return answer(nil, e), true
	}
	return answer(p.readings(lex.Ends(runes)), e), true
}

// readings are those of the text.
func (p plain) readings(ends []bool) []api.Reading {
	least := map[string]api.Reading{}
	for to, is := range ends {
		for _, x := range p.of(0, 0, to) {
			v := x.values[0]
			was, has := least[value(v)]
			if is && v.Kind >= 4 && (!has || x.cost < was.Cost) {
				least[value(v)] = api.Reading{V: v, Cost: x.cost}
			}
		}
	}
	var list []api.Reading
	for _, x := range least {
		list = append(list, x)
	}
	slices.SortFunc(list, ahead)
	return list
}
