package chart

import (
	"slices"

	"interlocutor/api"
)

// sign is one, by its class's code, and where it ends.
type sign struct{ to, code int }

// end is where something ends, and in how many ways.
type end struct{ to, ways int }

// table is what may be derived. Places stand in it by their order among those that
// signs have, so that nothing hangs on how far they are apart.
type table struct {
	grammar grammar
	most    int
	places  []int
	signs   [][]sign  // of each place
	found   [][][]end // of each place, of each class and symbol
	cells   [][]int   // of the row that is being filled
}

// newTable makes one in which nothing is derived yet.
func newTable(rules []api.Rule, toks []api.Tok, most int) *table {
	t := &table{grammar: cut(rules), most: most, places: placesOf(toks)}
	t.signs = make([][]sign, len(t.places))
	t.found = make([][][]end, len(t.places))
	t.cells = make([][]int, len(t.places))
	for _, tok := range toks {
		t.lay(tok)
	}
	return t
}

// placesOf tells the places at which signs begin or end, rising.
func placesOf(toks []api.Tok) []int {
	places := make([]int, 0, 2*len(toks))
	for _, tok := range toks {
		places = append(places, tok.From, tok.To)
	}
	slices.Sort(places)
	return slices.Compact(places)
}

// lay puts a sign where it begins, if a rule has its class. What is below 0 is no
// class, but would stand for a symbol.
func (t *table) lay(tok api.Tok) {
	code, is := t.grammar.parts[-1-tok.Class]
	if !is || tok.Class < 0 {
		return
	}
	from, _ := slices.BinarySearch(t.places, tok.From)
	to, _ := slices.BinarySearch(t.places, tok.To)
	t.signs[from] = append(t.signs[from], sign{to, code})
}

// spans tells the symbols that were found.
func (t *table) spans() []Span {
	var spans []Span
	for symbol := range api.MaxNon {
		code, is := t.grammar.parts[symbol]
		if !is {
			continue
		}
		for from, found := range t.found {
			for _, e := range found[code] {
				spans = append(spans, Span{symbol, t.places[from], t.places[e.to]})
			}
		}
	}
	return spans
}

// count tells in how many ways a symbol was found.
func (t *table) count(symbol, from, to int) int {
	code, hasRule := t.grammar.parts[symbol]
	at, hasSign := slices.BinarySearch(t.places, from)
	if !hasRule || !hasSign {
		return 0
	}
	for _, e := range t.found[at][code] {
		if t.places[e.to] == to {
			return e.ways
		}
	}
	return 0
}

// fill finds what begins at a place, once all that begins behind it is found.
func (t *table) fill(from int) {
	r := &row{table: t}
	for _, s := range t.signs[from] {
		r.add(s.to, s.code, 1)
	}
	// Whatever is added ends behind where the steps are: the row grows there alone.
	for i := 0; i < len(r.ends); i++ {
		// What is one part alone must be there ahead of all that begins with it.
		for _, step := range [...]func(*row, int){(*row).rise, (*row).join} {
			step(r, r.ends[i])
		}
	}
	t.found[from] = r.told()
}
