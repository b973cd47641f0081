package chart_test

import (
	"math/big"
	"slices"
	"strconv"
	"testing"

	"interlocutor/api"
	"interlocutor/chart"
	"interlocutor/gram"
)

// most is the greatest that may be asked for.
const most = 1_000_000_000

// rule is one that picks its first.
func rule(lhs int, rhs ...int) api.Rule {
	return api.Rule{Lhs: lhs, Rhs: rhs, Act: api.Act{Op: api.APick, P: []int{0}}}
}

// sign is one of a class between two places.
func sign(from, to, class int) api.Tok { return api.Tok{From: from, To: to, Class: class} }

// row is signs of these classes, each behind the one ahead, a place long.
func row(classes ...int) []api.Tok {
	var toks []api.Tok
	for at, class := range classes {
		toks = append(toks, sign(at, at+1, class))
	}
	return toks
}

// same is a row of n signs of class 1.
func same(n int) []api.Tok { return row(slices.Repeat([]int{1}, n)...) }

// fields are a sign's, in the order in which signs are handed in.
func fields(x api.Tok) []int { return []int{x.From, x.To, x.Class, x.Value, x.Len} }

// inOrder are signs as they may be handed in: in their order, none twice.
func inOrder(toks []api.Tok) []api.Tok {
	toks = slices.Clone(toks)
	slices.SortFunc(toks, func(a, b api.Tok) int { return slices.Compare(fields(a), fields(b)) })
	return slices.Compact(toks)
}

// told is what is handed in.
type told struct {
	rules []api.Rule
	toks  []api.Tok
}

// trees are the derivations of a symbol by W4's words, each written out: a rule by
// its place, a sign by its place.
func (w told) trees(sym, from, to int) []string {
	var all []string
	for at, r := range w.rules {
		if r.Lhs != sym {
			continue
		}
		for _, s := range w.rows(r.Rhs, from, to) {
			all = append(all, "r"+strconv.Itoa(at)+"("+s+")")
		}
	}
	return all
}

// rows are those of parts, one behind the other.
func (w told) rows(parts []int, from, to int) []string {
	if len(parts) == 0 {
		if from == to {
			return []string{""}
		}
		return nil
	}
	var all []string
	for mid := from + 1; mid <= to-len(parts)+1; mid++ {
		for _, head := range w.heads(parts[0], from, mid) {
			for _, rest := range w.rows(parts[1:], mid, to) {
				all = append(all, head+" "+rest)
			}
		}
	}
	return all
}

// heads are those of one part.
func (w told) heads(part, from, to int) []string {
	if part >= 0 {
		return w.trees(part, from, to)
	}
	var all []string
	for at, x := range w.toks {
		if x.From == from && x.To == to && x.Class == -1-part {
			all = append(all, "s"+strconv.Itoa(at))
		}
	}
	return all
}

// counter counts derivations that are too many to be written out.
type counter struct {
	told
	known map[[3]int]*big.Int
}

func (c counter) count(sym, from, to int) *big.Int {
	key := [3]int{sym, from, to}
	if n := c.known[key]; n != nil {
		return n
	}
	n := new(big.Int)
	for _, r := range c.rules {
		if r.Lhs == sym {
			n.Add(n, c.parts(r.Rhs, from, to))
		}
	}
	c.known[key] = n
	return n
}

func (c counter) parts(parts []int, from, to int) *big.Int {
	n := new(big.Int)
	if len(parts) == 0 && from == to {
		n.SetInt64(1)
	}
	if len(parts) == 0 {
		return n
	}
	for mid := from + 1; mid <= to-len(parts)+1; mid++ {
		k := big.NewInt(int64(len(c.heads0(parts[0], from, mid))))
		if parts[0] >= 0 {
			k = c.count(parts[0], from, mid)
		}
		if k.Sign() > 0 {
			n.Add(n, new(big.Int).Mul(k, c.parts(parts[1:], mid, to)))
		}
	}
	return n
}

// heads0 are the signs alone.
func (c counter) heads0(part, from, to int) []string {
	if part >= 0 {
		return nil
	}
	return c.heads(part, from, to)
}

// atMost is n, but no more than most.
func atMost(n *big.Int, most int) int {
	if n.Cmp(big.NewInt(int64(most))) > 0 {
		return most
	}
	return int(n.Int64())
}

// symbols are those that rules have, and one that they do not.
func symbols(rules []api.Rule) []int {
	has := map[int]bool{}
	for _, r := range rules {
		has[r.Lhs] = true
		for _, part := range r.Rhs {
			has[part] = true
		}
	}
	var all []int
	none := false
	for symbol := range 20 {
		if has[symbol] || !none {
			all = append(all, symbol)
			none = none || !has[symbol]
		}
	}
	return all
}

// holds holds Spans and Count against the derivations, written out: P701 and P702.
func holds(t *testing.T, rules []api.Rule, toks []api.Tok, size int) {
	t.Helper()
	if !gram.Check(rules) || !slices.Equal(toks, inOrder(toks)) {
		t.Fatalf("%v, %v may not be", rules, toks)
	}
	var spans []chart.Span
	w := told{rules, toks}
	for _, sym := range symbols(rules) {
		for from := -1; from <= size+1; from++ {
			for to := -1; to <= size+1; to++ {
				trees := w.trees(sym, from, to)
				if len(trees) > 0 {
					spans = append(spans, chart.Span{Sym: sym, From: from, To: to})
				}
				counts(t, rules, toks, sym, from, to, len(trees))
			}
		}
	}
	spansAre(t, rules, toks, size, spans...)
}

// counts asks Count for n derivations, whatever most is.
func counts(t *testing.T, rules []api.Rule, toks []api.Tok, sym, from, to, n int) {
	t.Helper()
	for _, most := range []int{0, 1, n - 1, n, n + 1, most - 1, most} {
		if most < 0 {
			continue
		}
		if got := chart.Count(rules, toks, sym, from, to, most); got != min(n, most) {
			t.Fatalf("P701: Count(%v, %v, %d, %d, %d, %d) is %d, not %d", rules, toks, sym, from, to, most, got, min(n, most))
		}
	}
}

// spansAre asks Spans for just these.
func spansAre(t *testing.T, rules []api.Rule, toks []api.Tok, size int, want ...chart.Span) {
	t.Helper()
	if got := chart.Spans(rules, toks, size); !slices.Equal(got, want) {
		t.Fatalf("P701: Spans(%v, %v, %d) is %v, not %v", rules, toks, size, got, want)
	}
}
