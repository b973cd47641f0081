package chart_test

import (
	"math"
	"math/big"
	"math/rand"
	"slices"
	"testing"

	"interlocutor/api"
	"interlocutor/chart"
	"interlocutor/gram"
)

// P701: none, one, some, told by hand and held against the derivations.
func TestCountByHand(t *testing.T) {
	other := rule(0, -2, -2)
	other.Act = api.Act{Op: api.APick, P: []int{1}}
	dear := rule(0, -2, -2)
	dear.Cost = 100
	for _, x := range []struct {
		what         string
		rules        []api.Rule
		toks         []api.Tok
		sym, to, how int
	}{
		{"no rules", nil, same(2), 0, 2, 0},
		{"no signs", []api.Rule{rule(0, -2)}, nil, 0, 1, 0},
		{"none", []api.Rule{rule(0, -2, -3)}, same(2), 0, 2, 0},
		{"another symbol", []api.Rule{rule(0, -2, -2)}, same(2), 1, 2, 0},
		{"too far", []api.Rule{rule(0, -2, -2)}, same(3), 0, 3, 0},
		{"one", []api.Rule{rule(0, -2, -2)}, same(2), 0, 2, 1},
		{"six", []api.Rule{rule(0, -2, -2, -2, -2, -2, -2)}, same(6), 0, 6, 1},
		{"the same rule twice", []api.Rule{rule(0, -2, -2), rule(0, -2, -2)}, same(2), 0, 2, 2},
		{"the same rule of one sign twice", []api.Rule{rule(0, -2), rule(0, -2)}, same(1), 0, 1, 2},
		{"the same rule of one symbol twice", []api.Rule{rule(0, 1), rule(0, 1), rule(1, -2), rule(1, -2)}, same(1), 0, 1, 4},
		{"60 times", slices.Repeat([]api.Rule{rule(0, -2, -2)}, 60), same(2), 0, 2, 60},
		{"another Act", []api.Rule{rule(0, -2, -2), other}, same(2), 0, 2, 2},
		{"another Cost", []api.Rule{rule(0, -2, -2), dear}, same(2), 0, 2, 2},
		{"one behind the other", []api.Rule{rule(0, 1), rule(1, 2), rule(2, -2), rule(1, -2), rule(0, 2)}, same(1), 0, 1, 3},
		{"by two ways", []api.Rule{rule(5, 3), rule(5, 9), rule(3, 7), rule(9, 7), rule(7, -2)}, same(1), 5, 1, 2},
		{"two of itself", []api.Rule{rule(0, 0, 0), rule(0, -2)}, same(5), 0, 5, 14},
		{"three of itself", []api.Rule{rule(0, 0, 0, 0), rule(0, -2)}, same(7), 0, 7, 12},
		{"two and three of itself", []api.Rule{rule(0, 0, 0, 0), rule(0, 0, 0), rule(0, -2)}, same(4), 0, 4, 10},
		{"begins with itself", []api.Rule{rule(0, 0, -2), rule(0, -2)}, same(5), 0, 5, 1},
		{"begins or ends with itself", []api.Rule{rule(0, 0, -2), rule(0, -2, 0), rule(0, -2)}, same(5), 0, 5, 16},
		{"other values", []api.Rule{rule(0, -2)}, []api.Tok{{To: 1, Class: 1}, {To: 1, Class: 1, Value: 2}, {To: 1, Class: 1, Value: 2, Len: 1}}, 0, 1, 3},
		{"other values, two of them", []api.Rule{rule(0, -2, -2)}, []api.Tok{{To: 1, Class: 1}, {To: 1, Class: 1, Value: 2}, {From: 1, To: 2, Class: 1}, {From: 1, To: 2, Class: 1, Value: 1}, {From: 1, To: 2, Class: 1, Value: 2}}, 0, 2, 6},
		{"other cuts", []api.Rule{rule(0, -2, -2)}, []api.Tok{sign(0, 1, 1), sign(0, 2, 1), sign(0, 3, 1), sign(1, 4, 1), sign(2, 4, 1), sign(3, 4, 1)}, 0, 4, 3},
	} {
		size := x.to
		if n := len(told{x.rules, x.toks}.trees(x.sym, 0, x.to)); n != x.how {
			t.Errorf("%s: %d are written out, not %d", x.what, n, x.how)
		}
		if got := chart.Count(x.rules, x.toks, x.sym, 0, x.to, most); got != x.how {
			t.Errorf("P701: %s: %d, not %d", x.what, got, x.how)
		}
		for _, tok := range x.toks {
			size = max(size, tok.To)
		}
		holds(t, x.rules, x.toks, size)
	}
}

// P701: no more than most, for each of them about as many as there are.
func TestMost(t *testing.T) {
	rules := []api.Rule{rule(0, 0, 0), rule(0, -2)}
	for n, catalan := range []int{0, 1, 1, 2, 5, 14, 42, 132, 429, 1430, 4862, 16796} {
		for _, k := range []int{0, 1, 2, catalan / 2, catalan - 1, catalan, catalan + 1, 2 * catalan, most - 1, most} {
			if k < 0 {
				continue
			}
			if got := chart.Count(rules, same(n), 0, 0, n, k); got != min(catalan, k) {
				t.Errorf("P701: Count of %d signs, most %d, is %d", n, k, got)
			}
		}
	}
	for k := range 20 {
		if got := chart.Count(rules, same(5), 0, 0, 5, k); got != min(14, k) {
			t.Errorf("P701: most %d: %d", k, got)
		}
	}
	// the last below 10^9, the first above
	for _, x := range [][3]int{{19, most, 477638700}, {19, 477638700, 477638700}, {19, 477638699, 477638699}, {20, most, most}, {20, most - 1, most - 1}} {
		if got := chart.Count(rules, same(x[0]), 0, 0, x[0], x[1]); got != x[2] {
			t.Errorf("P701: Count of %d signs, most %d, is %d", x[0], x[1], got)
		}
	}
}

// P701: more than an int holds, those too that would be nothing in 32 or 64 bits.
func TestBeyondInt(t *testing.T) {
	rules := []api.Rule{rule(0, 0, 0), rule(0, -2)}
	for _, n := range []int{30, 60, 128, 200} {
		if got := chart.Count(rules, same(n), 0, 0, n, most); got != most {
			t.Errorf("P701: Count of %d signs is %d", n, got)
		}
	}
	twofold := []api.Rule{rule(0, 0, -2), rule(0, -2)}
	var toks []api.Tok
	for n := range 140 {
		if got, want := chart.Count(twofold, toks, 0, 0, n, most), min(1<<min(n, 40), most); n > 0 && got != want {
			t.Errorf("P701: 2^%d: %d, not %d", n, got, want)
		}
		toks = append(toks, api.Tok{From: n, To: n + 1, Class: 1, Value: 1}, api.Tok{From: n, To: n + 1, Class: 1, Value: 2})
	}
	// each symbol is two of the next, in eight ways: 8^(2^k - 1)
	var doubled []api.Rule
	for symbol := range 6 {
		doubled = append(doubled, slices.Repeat([]api.Rule{rule(symbol, symbol+1, symbol+1)}, 8)...)
	}
	doubled = append(doubled, rule(6, -2))
	for symbol, want := range []int{most, most, most, 2097152, 512, 8, 1} {
		n := 1 << (6 - symbol)
		if got := chart.Count(doubled, same(n), symbol, 0, n, most); got != want {
			t.Errorf("P701: Count of %d is %d, not %d", symbol, got, want)
		}
	}
}

// P701: from and to beyond the size, or not one behind the other, and symbols that
// no rule has.
func TestCountPlaces(t *testing.T) {
	rules := []api.Rule{rule(0, 0, 0), rule(0, -2)}
	places := []int{math.MinInt, -1 << 32, -3, -2, -1, 0, 1, 2, 3, 4, 5, 1 << 32, 1<<32 + 1, math.MaxInt}
	want := map[[2]int]int{{0, 1}: 1, {1, 2}: 1, {2, 3}: 1, {0, 2}: 1, {1, 3}: 1, {0, 3}: 2}
	for _, from := range places {
		for _, to := range places {
			if got := chart.Count(rules, same(3), 0, from, to, most); got != want[[2]int{from, to}] {
				t.Errorf("P701: Count from %d to %d is %d", from, to, got)
			}
			for _, sym := range []int{1, 2, 18, 19} {
				if got := chart.Count(rules, same(3), sym, from, to, most); got != 0 {
					t.Errorf("P701: Count of %d from %d to %d is %d", sym, from, to, got)
				}
			}
		}
	}
}

// all are rules of each small form, of two symbols and two classes.
func all() []api.Rule {
	return []api.Rule{rule(0, -2), rule(0, -3), rule(0, 1), rule(0, 0, 0), rule(0, 1, -3), rule(0, -2, 0, -2),
		rule(1, -2), rule(1, -2), rule(1, -3, 0), rule(1, 1, 0), rule(1, 0, 1, 1)}
}

// P701, P702: each choice of these rules, over signs that join, overlap, are there
// with other values.
func TestEachGrammar(t *testing.T) {
	texts := [][]api.Tok{
		row(1, 2, 1),
		{sign(0, 1, 1), sign(0, 2, 2), sign(1, 2, 2), {From: 1, To: 2, Class: 2, Value: 1}, sign(1, 3, 1), sign(2, 3, 1)},
	}
	for bits := range 1 << len(all()) {
		var rules []api.Rule
		for at, r := range all() {
			if bits>>at&1 == 1 {
				rules = append(rules, r)
			}
		}
		for _, toks := range texts {
			agrees(t, rules, toks, 3)
		}
	}
}

// agrees holds Spans and Count against the derivations, for places that may be.
func agrees(t *testing.T, rules []api.Rule, toks []api.Tok, size int) {
	t.Helper()
	var spans []span
	w := counter{told{rules, toks}, map[[3]int]*big.Int{}}
	for _, sym := range symbols(rules) {
		for from := range size {
			for to := from + 1; to <= size; to++ {
				n := w.count(sym, from, to)
				if n.Sign() > 0 {
					spans = append(spans, span{sym, from, to})
				}
				if got := chart.Count(rules, toks, sym, from, to, most); got != atMost(n, most) {
					t.Fatalf("P701: Count(%v, %v, %d, %d, %d) is %d, not %v", rules, toks, sym, from, to, got, n)
				}
			}
		}
	}
	spansAre(t, rules, toks, size, spans...)
}

// some makes a grammar by chance: one that gram.Check allows.
func some(by *rand.Rand) []api.Rule {
	for {
		var rules []api.Rule
		top := 1 + by.Intn(6)
		for range by.Intn(20) {
			r := rule(by.Intn(top))
			for range 1 + by.Intn(1+by.Intn(6)) {
				r.Rhs = append(r.Rhs, by.Intn(4+top)-4)
			}
			rules = append(rules, r)
		}
		// most symbols are a sign, too: else there would hardly be a derivation
		for symbol := range top {
			if by.Intn(3) > 0 {
				rules = append(rules, rule(symbol, -1-by.Intn(4)))
			}
		}
		if gram.Check(rules) {
			return rules
		}
	}
}

// signs makes signs by chance, at most three places long.
func signs(by *rand.Rand, size int) []api.Tok {
	var toks []api.Tok
	for range by.Intn(3*size + 1) {
		from := by.Intn(size)
		to := from + 1 + by.Intn(min(3, size-from))
		toks = append(toks, api.Tok{From: from, To: to, Class: by.Intn(4), Value: by.Intn(2), Len: by.Intn(2)})
	}
	return inOrder(toks)
}

// P701, P702: grammars and signs by chance (the same each time).
func TestByChance(t *testing.T) {
	by := rand.New(rand.NewSource(7))
	spans := 0
	for range 600 {
		size := 1 + by.Intn(7)
		rules, toks := some(by), signs(by, size)
		agrees(t, rules, toks, size)
		spans += len(chart.Spans(rules, toks, size))
	}
	for range 20 {
		rules, toks := some(by), signs(by, 25)
		agrees(t, rules, toks, 25)
		spans += len(chart.Spans(rules, toks, 25))
	}
	if spans < 4000 {
		t.Errorf("%d spans: too few to tell", spans)
	}
}

// P702: a Span is there just where Count is 1 or more, whatever most is.
func TestSpanWhereCount(t *testing.T) {
	by := rand.New(rand.NewSource(702))
	for range 100 {
		size := 1 + by.Intn(6)
		rules, toks := some(by), signs(by, size)
		spans := chart.Spans(rules, toks, size)
		for _, sym := range symbols(rules) {
			for from := -1; from <= size+1; from++ {
				for to := -1; to <= size+1; to++ {
					is := slices.Contains(spans, span{sym, from, to})
					for _, k := range []int{1, 2, most} {
						if got := chart.Count(rules, toks, sym, from, to, k); is != (got >= 1) {
							t.Fatalf("P702: %v, %v: %d from %d to %d: %d, %v", rules, toks, sym, from, to, got, is)
						}
					}
				}
			}
		}
	}
}
