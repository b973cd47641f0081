package read

import (
	"cmp"
	"maps"
	"slices"

	"interlocutor/api"
)

// costs are of values, by their numbers, the least that derivations cost.
type costs map[int]int

func (c costs) add(id, cost int) {
	if least, is := c[id]; !is || cost < least {
		c[id] = cost
	}
}

// list tells the cheapest first.
func (c costs) list() []meaning {
	var list []meaning
	for _, id := range slices.Sorted(maps.Keys(c)) {
		list = append(list, meaning{id, c[id]})
	}
	slices.SortStableFunc(list, func(a, b meaning) int { return cmp.Compare(a.cost, b.cost) })
	return list
}

// cell is a part of rules, up to a place.
type cell struct{ part, to int }

// branch is a rule's beginning: a choice of so many parts, up to a place.
type branch struct {
	choice
	parts, to int
}

// row finds what begins at one place: of each cell the values, and once these are
// all, its span in begun.
type row struct {
	*table
	begun begun
	cells map[cell]costs
	ends  []int // of cells, rising
	known map[branch]int
}

// at tells a cell's values, to be added to.
func (w *row) at(c cell) costs {
	if w.cells[c] == nil {
		w.cells[c] = costs{}
		if place, is := slices.BinarySearch(w.ends, c.to); !is {
			w.ends = slices.Insert(w.ends, place, c.to)
		}
	}
	return w.cells[c]
}

// run goes through the places where something ends. Whatever is longer than what
// ends at one of them is found from there on, so its cells are whole by then, but
// for the rules of one part.
func (w *row) run() {
	for at := 0; at < len(w.ends); at++ {
		to := w.ends[at]
		for _, part := range w.parts {
			for rule, r := range w.rules {
				if r.Lhs == part && len(r.Rhs) == 1 {
					w.start(rule, to)
				}
			}
			w.close(cell{part, to})
		}
		for rule, r := range w.rules {
			if len(r.Rhs) > 1 {
				w.start(rule, to)
			}
		}
	}
}

// close makes the span of a cell that is whole.
func (w *row) close(c cell) {
	if len(w.cells[c]) > 0 {
		w.begun[c.part] = append(w.begun[c.part], span{c.to, w.cells[c].list()})
	}
	delete(w.cells, c)
}

// start derives a rule whose first part ends at that place, the last one by now.
func (w *row) start(rule, to int) {
	r := w.rules[rule]
	spans := w.begun[r.Rhs[0]]
	last := len(spans) - 1
	if last >= 0 && spans[last].to == to && w.mayEnd(rest{rule, 1, to}) {
		list := w.fitting(rule, 0, spans[last].list)
		w.carry(branch{choice: choice{rule: rule}}, span{to, list}, r.Cost)
	}
}

// carry carries on a branch by a span, to the end of the rule with one meaning
// ahead of the next one: so values that are too many are soon found.
func (w *row) carry(b branch, s span, cost int) {
	part := b.parts
	b.parts, b.to = part+1, s.to
	if b.parts == len(w.rules[b.rule].Rhs) {
		w.end(b, s.list, cost)
		return
	}
	for _, m := range s.list {
		b.ids[part] = m.id
		w.grow(b, cost+m.cost)
	}
}

// grow carries on a branch by all that begins where it ends, unless it was there
// already and no dearer.
func (w *row) grow(b branch, cost int) {
	if least, is := w.known[b]; is && least <= cost {
		return
	}
	w.known[b] = cost
	for _, s := range w.onward(rest{b.rule, b.parts, b.to}) {
		w.carry(b, s, cost)
	}
}

// end adds what a rule makes with each of these as its last part.
func (w *row) end(b branch, list []meaning, cost int) {
	values := w.at(cell{w.rules[b.rule].Lhs, b.to})
	for _, m := range list {
		b.ids[b.parts-1] = m.id
		if id := w.result(b.choice); id != none {
			values.add(id, cost+m.cost)
		}
		if len(values) > api.MaxCell {
			panic(api.Over)
		}
	}
}
