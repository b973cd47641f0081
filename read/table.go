package read

import (
	"slices"

	"interlocutor/act"
	"interlocutor/api"
	"interlocutor/gram"
	"interlocutor/rank"
)

const (
	text  = 0 // the symbol that a text is
	blank = 0x20
)

// meaning is a value by its number, and the least that a derivation of it costs.
type meaning struct{ id, cost int }

// span is what a part of rules means up to a place, the cheapest first; at least
// one meaning.
type span struct {
	to   int
	list []meaning
}

// begun is what begins at one place: of each part the spans, by where they end.
type begun map[int][]span

// rest is what is left of a rule from one of its parts, and from a place, on.
type rest struct{ rule, part, from int }

// table is what may be derived from each place on.
type table struct {
	*makings
	parts  []int // of all rules, each behind what it may be alone
	places []begun
	rests  map[rest][]span
}

func newTable(rules []api.Rule, ref api.Moment) *table {
	return &table{makings: newMakings(rules, ref), parts: partsOf(rules), rests: map[rest][]span{}}
}

// partsOf tells the classes that rules ask for, and all symbols, each behind those
// that it may be alone: what they mean must be known by then. No symbol comes to
// itself, so each round adds one at least.
func partsOf(rules []api.Rule) []int {
	var parts []int
	isOut := func(part int) bool { return !slices.Contains(parts, part) }
	for _, r := range rules {
		for _, part := range r.Rhs {
			if part < 0 && isOut(part) {
				parts = append(parts, part)
			}
		}
	}
	alone := gram.Units(rules)
	for range alone {
		for symbol, those := range alone {
			if isOut(symbol) && !slices.ContainsFunc(those, isOut) {
				parts = append(parts, symbol)
			}
		}
	}
	return parts
}

// fill finds what begins at each place, the last one first: what begins behind a
// place is there ahead of what begins at it. Signs are by From.
func (t *table) fill(runes []int, toks []api.Tok) {
	t.places = make([]begun, len(runes)+1)
	for from := len(runes) - 1; from >= 0; from-- {
		first := len(toks)
		for first > 0 && toks[first-1].From == from {
			first--
		}
		if runes[from] == blank {
			t.places[from] = t.places[from+1] // the same signs begin there
		} else {
			t.places[from] = t.begin(toks[first:])
		}
		toks = toks[:first]
	}
}

// begin finds what begins with signs that all begin at one place.
func (t *table) begin(toks []api.Tok) begun {
	w := &row{table: t, begun: begun{}, cells: map[cell]costs{}, known: map[branch]int{}}
	for _, tok := range toks {
		if part := -1 - tok.Class; part < 0 && slices.Contains(t.parts, part) {
			w.at(cell{part, tok.To}).add(t.id(act.Sign(tok)), 0)
		}
	}
	w.run()
	return w.begun
}

// onward tells the spans by which a rule may be carried on, with those meanings alone
// that fit, where it may be carried on from there to its end, too.
func (t *table) onward(x rest) []span {
	spans, is := t.rests[x]
	if !is {
		for _, s := range t.places[x.from][t.rules[x.rule].Rhs[x.part]] {
			s.list = t.fitting(x.rule, x.part, s.list)
			if len(s.list) > 0 && t.mayEnd(rest{x.rule, x.part + 1, s.to}) {
				spans = append(spans, s)
			}
		}
		t.rests[x] = spans
	}
	return spans
}

// mayEnd tells whether there is nothing left of a rule, or something that may be.
func (t *table) mayEnd(x rest) bool {
	return x.part == len(t.rules[x.rule].Rhs) || len(t.onward(x)) > 0
}

// fitting tells those meanings that fit into a part of a rule. Of a part that its
// action does not ask for the cheapest one stands for all, under the number 0.
func (t *table) fitting(rule, part int, list []meaning) []meaning {
	if !t.asks(rule, part) {
		return []meaning{{cost: list[0].cost}}
	}
	var fit []meaning
	for _, m := range list {
		if t.fits(suit{rule, part, m.id}) {
			fit = append(fit, m)
		}
	}
	return fit
}

// readings tells what the text means up to each place at which it may end.
func (t *table) readings(ends []bool) []api.Reading {
	least := costs{}
	for _, s := range t.places[0][text] {
		for _, m := range s.list {
			if ends[s.to] && t.values[m.id].Kind >= api.VDate {
				least.add(m.id, m.cost)
			}
		}
	}
	var list []api.Reading
	for _, m := range least.list() {
		list = append(list, api.Reading{V: t.values[m.id], Cost: m.cost})
	}
	slices.SortFunc(list, func(a, b api.Reading) int { return rank.Cmp(a.V, b.V) })
	return list
}
