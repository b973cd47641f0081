package chart

import (
	"slices"

	"interlocutor/api"
	"interlocutor/gram"
)

// unit is a symbol that is one part alone.
type unit struct{ part, whole int }

// join is a whole of two, one behind the other.
type join struct{ left, right, whole int }

// grammar is rules, cut so that a step takes two things at most: the beginnings of
// a rule of many parts, that of two, that of three, and so on, are wholes, too.
// Whatever is told apart has a code, the parts of rules ahead of the beginnings.
type grammar struct {
	parts map[int]int
	units []unit
	joins []join
	codes int
}

// cut makes the steps of rules.
func cut(rules []api.Rule) grammar {
	parts := partsOf(rules)
	g := grammar{parts: parts, codes: len(parts)}
	for _, symbol := range risen(gram.Units(rules)) {
		for _, r := range rules {
			if r.Lhs == symbol && len(r.Rhs) == 1 {
				g.units = append(g.units, unit{parts[r.Rhs[0]], parts[symbol]})
			}
		}
	}
	for _, r := range rules {
		if len(r.Rhs) > 1 {
			g.chain(r)
		}
	}
	return g
}

// partsOf gives each symbol and class of rules its code.
func partsOf(rules []api.Rule) map[int]int {
	codes := map[int]int{}
	for _, r := range rules {
		for _, part := range append([]int{r.Lhs}, r.Rhs...) {
			if _, is := codes[part]; !is {
				codes[part] = len(codes)
			}
		}
	}
	return codes
}

// chain adds the joins of a rule, its beginnings under codes of their own.
func (g *grammar) chain(r api.Rule) {
	left := g.parts[r.Rhs[0]]
	last := len(r.Rhs) - 1
	for _, part := range r.Rhs[1:last] {
		g.joins = append(g.joins, join{left, g.parts[part], g.codes})
		left = g.codes
		g.codes++
	}
	g.joins = append(g.joins, join{left, g.parts[r.Rhs[last]], g.parts[r.Lhs]})
}

// risen tells the symbols, each behind those that it may be alone: what there is of
// those must be known by then. No symbol comes to itself, so each round adds one at
// least.
func risen(alone [][]int) []int {
	var order []int
	isOut := func(symbol int) bool { return !slices.Contains(order, symbol) }
	for range alone {
		for symbol, those := range alone {
			if isOut(symbol) && !slices.ContainsFunc(those, isOut) {
				order = append(order, symbol)
			}
		}
	}
	return order
}
