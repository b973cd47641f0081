package gram

import (
	"maps"
	"slices"

	"interlocutor/api"
)

// text is the symbol that a text is.
const text = 0

// set holds symbols, each once.
type set map[int]struct{}

func (s set) add(symbol int) { s[symbol] = struct{}{} }

func (s set) has(symbol int) bool {
	_, is := s[symbol]
	return is
}

func (s set) rising() []int { return slices.Sorted(maps.Keys(s)) }

// graph holds of symbols those that each leads to at once.
type graph map[int]set

// draw makes the graph in which rules lead from their Lhs to the symbols in their
// Rhs; those of more than longest Rhs lead nowhere.
func draw(rules []api.Rule, longest int) graph {
	g := graph{}
	for _, r := range rules {
		if len(r.Rhs) <= longest {
			g.link(r.Lhs, r.Rhs)
		}
	}
	return g
}

// link leads from a symbol to the symbols among what a rule has in its Rhs.
func (g graph) link(from int, rhs []int) {
	if g[from] == nil {
		g[from] = set{}
	}
	for _, part := range rhs {
		if isSymbol(part) {
			g[from].add(part)
		}
	}
}

// symbols tells those from which g may lead on.
func (g graph) symbols() []int { return slices.Sorted(maps.Keys(g)) }

// behind holds the symbols that from leads to, at once or by others; from too, if
// it comes to itself.
func (g graph) behind(from int) set {
	found, todo := set{}, []int{from}
	for len(todo) > 0 {
		at := todo[0]
		todo = todo[1:]
		for _, to := range g[at].rising() {
			if !found.has(to) {
				found.add(to)
				todo = append(todo, to)
			}
		}
	}
	return found
}

// circles tells whether a symbol comes to itself.
func (g graph) circles(symbol int) bool { return g.behind(symbol).has(symbol) }
