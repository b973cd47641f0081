package chart_test

import (
	"math"
	"slices"
	"testing"

	"interlocutor/api"
	"interlocutor/chart"
	"interlocutor/fold"
	"interlocutor/lex"
)

type span = chart.Span

// P701: without rules, without signs, without a place there is nothing.
func TestSpansOfNothing(t *testing.T) {
	spansAre(t, nil, nil, 0)
	spansAre(t, nil, nil, 9)
	spansAre(t, nil, row(0, 1, 2), 3)
	spansAre(t, []api.Rule{}, row(0, 1, 2), 3)
	spansAre(t, []api.Rule{rule(0, -1)}, nil, 0)
	spansAre(t, []api.Rule{rule(0, -1)}, []api.Tok{}, 0)
	spansAre(t, []api.Rule{rule(0, -1)}, nil, 9)
	spansAre(t, []api.Rule{rule(0, -1)}, nil, math.MaxInt)
	spansAre(t, []api.Rule{rule(0, -1)}, row(1, 1), 2)
	spansAre(t, []api.Rule{rule(0, 1), rule(1, 2, 2)}, row(1, 1), 2)
}

// P701: each edge, told by hand and held against the derivations.
func TestSpansByHand(t *testing.T) {
	for _, x := range []struct {
		what  string
		rules []api.Rule
		toks  []api.Tok
		want  []span
	}{
		{"one sign", []api.Rule{rule(0, -2)}, row(1, 2, 1), []span{{0, 0, 1}, {0, 2, 3}}},
		{"one symbol", []api.Rule{rule(0, 4), rule(4, -2)}, row(1, 2), []span{{0, 0, 1}, {4, 0, 1}}},
		{"several signs", []api.Rule{rule(3, -2, -3, -2)}, row(1, 2, 1, 2, 1), []span{{3, 0, 3}, {3, 2, 5}}},
		{"several of both", []api.Rule{rule(5, -1, 6, -51, 6), rule(6, -2)}, row(0, 1, 50, 1), []span{{5, 0, 4}, {6, 1, 2}, {6, 3, 4}}},
		{"six of both", []api.Rule{rule(0, 1, -3, 2, -3, 1, -3), rule(1, -2), rule(2, -2, -2)}, row(1, 2, 1, 1, 2, 1, 2), []span{{0, 0, 7}, {1, 0, 1}, {1, 2, 3}, {1, 3, 4}, {1, 5, 6}, {2, 2, 4}}},
		{"signs that do not join", []api.Rule{rule(0, -2, -2)}, []api.Tok{sign(0, 1, 1), sign(2, 3, 1), sign(4, 6, 1), sign(5, 6, 1)}, nil},
		{"signs that overlap", []api.Rule{rule(0, -2, -2)}, []api.Tok{sign(0, 2, 1), sign(1, 3, 1), sign(2, 4, 1), sign(3, 5, 1)}, []span{{0, 0, 4}, {0, 1, 5}}},
		{"several from one place", []api.Rule{rule(0, -2), rule(1, -2, -3)}, []api.Tok{sign(0, 1, 1), sign(0, 2, 1), sign(0, 3, 1), sign(2, 3, 2), sign(3, 4, 2)}, []span{{0, 0, 1}, {0, 0, 2}, {0, 0, 3}, {1, 0, 3}, {1, 0, 4}}},
		{"several to one place", []api.Rule{rule(0, -2)}, []api.Tok{sign(0, 3, 1), sign(1, 3, 1), sign(2, 3, 1)}, []span{{0, 0, 3}, {0, 1, 3}, {0, 2, 3}}},
		{"other values", []api.Rule{rule(0, -2)}, []api.Tok{{From: 0, To: 1, Class: 1, Value: -7}, {From: 0, To: 1, Class: 1, Value: 7}, {From: 0, To: 1, Class: 1, Value: 7, Len: 3}}, []span{{0, 0, 1}}},
		{"begins with itself", []api.Rule{rule(0, 0, -3), rule(0, -2)}, row(1, 2, 2, 1), []span{{0, 0, 1}, {0, 0, 2}, {0, 0, 3}, {0, 3, 4}}},
		{"ends with itself", []api.Rule{rule(0, -3, 0), rule(0, -2)}, row(2, 2, 1, 2), []span{{0, 0, 3}, {0, 1, 3}, {0, 2, 3}}},
		{"has itself within", []api.Rule{rule(0, -59, 0, -60), rule(0, -1)}, row(58, 58, 0, 59, 59), []span{{0, 0, 5}, {0, 1, 4}, {0, 2, 3}}},
		{"two of itself", []api.Rule{rule(0, 0, 0), rule(0, -2)}, row(1, 1, 1), []span{{0, 0, 1}, {0, 0, 2}, {0, 0, 3}, {0, 1, 2}, {0, 1, 3}, {0, 2, 3}}},
		{"itself without an end", []api.Rule{rule(0, 0, 0), rule(0, 0, -2), rule(0, -2, 0)}, row(1, 1, 1), nil},
		{"by one another", []api.Rule{rule(0, 1, -3), rule(1, 0, -2), rule(1, -1)}, row(0, 2, 1, 2), []span{{0, 0, 2}, {0, 0, 4}, {1, 0, 1}, {1, 0, 3}}},
		{"no rule has it", []api.Rule{rule(0, 7), rule(0, -2, 7), rule(0, 7, -2), rule(1, -2)}, row(1, 1), []span{{1, 0, 1}, {1, 1, 2}}},
		{"not reached", []api.Rule{rule(0, -2), rule(9, -2, 8), rule(8, -2)}, row(1, 1), []span{{0, 0, 1}, {0, 1, 2}, {8, 0, 1}, {8, 1, 2}, {9, 0, 2}}},
		{"rules there twice", []api.Rule{rule(0, -2), rule(0, -2), rule(0, -2, -2), rule(0, -2, -2)}, row(1, 1), []span{{0, 0, 1}, {0, 0, 2}, {0, 1, 2}}},
		{"order", []api.Rule{rule(19, -2), rule(7, -2), rule(7, -2, -2), rule(0, -2, -2, -2), rule(0, 7)}, row(1, 1, 1), []span{
			{0, 0, 1}, {0, 0, 2}, {0, 0, 3}, {0, 1, 2}, {0, 1, 3}, {0, 2, 3}, {7, 0, 1}, {7, 0, 2}, {7, 1, 2}, {7, 1, 3}, {7, 2, 3}, {19, 0, 1}, {19, 1, 2}, {19, 2, 3}}},
	} {
		size := 0
		for _, tok := range x.toks {
			size = max(size, tok.To)
		}
		if got := chart.Spans(x.rules, x.toks, size); !slices.Equal(got, x.want) {
			t.Errorf("P701: %s: %v, not %v", x.what, got, x.want)
		}
		// farther places change nothing
		spansAre(t, x.rules, x.toks, size+1, x.want...)
		spansAre(t, x.rules, x.toks, math.MaxInt, x.want...)
		holds(t, x.rules, x.toks, size)
	}
}

// P701: signs as lex tells them, with blanks ahead.
func TestSpansOfText(t *testing.T) {
	runes, _ := fold.Fold(" 12 /3")
	toks := lex.Tokens(api.Locale{}, runes)
	rules := []api.Rule{rule(0, 1, -51, 1), rule(1, -1)}
	spansAre(t, rules, toks, len(runes), span{0, 0, 6}, span{0, 1, 6}, span{0, 2, 6}, span{1, 0, 3}, span{1, 1, 3}, span{1, 2, 3}, span{1, 5, 6})
	holds(t, rules, toks, len(runes))
}

// P701: each class and each symbol is one of its own, in a rule of one and within
// one of three.
func TestEachPart(t *testing.T) {
	for class := range 61 {
		for other := range 61 {
			var one, three []span
			if class == other {
				one, three = []span{{0, 0, 1}}, []span{{0, 0, 3}}
			}
			spansAre(t, []api.Rule{rule(0, -1-class)}, row(other), 1, one...)
			spansAre(t, []api.Rule{rule(0, -1, -1-class, -61)}, row(0, other, 60), 3, three...)
		}
	}
	for symbol := 1; symbol < 20; symbol++ {
		for other := 1; other < 20; other++ {
			want := []span{{other, 0, 1}}
			if symbol == other {
				want = []span{{0, 0, 1}, {other, 0, 1}}
			}
			spansAre(t, []api.Rule{rule(0, symbol), rule(other, -1)}, row(0), 1, want...)
		}
	}
}

// P701: a sign of a class that no rule may have is no symbol and no other class.
func TestOtherClasses(t *testing.T) {
	var rules []api.Rule
	for symbol := range 20 {
		rules = append(rules, rule(19-symbol, symbol, symbol))
	}
	for class := range 20 {
		rules = append(rules, rule(class, -1-class), rule(class, -42-class))
	}
	if spans := chart.Spans(rules, row(3), 1); !slices.Equal(spans, []span{{3, 0, 1}}) {
		t.Fatalf("P701: %v", spans)
	}
	for _, class := range []int{-1, -2, -3, -20, -21, -22, 61, 62, 80, 81, 100, 256, 1 << 32, -1 << 32, math.MinInt, math.MinInt + 1, math.MaxInt} {
		spansAre(t, rules, []api.Tok{sign(0, 1, class)}, 1)
		counts(t, rules, []api.Tok{sign(0, 1, class)}, 0, 0, 1, 0)
		want := chart.Spans(rules, []api.Tok{sign(0, 1, 5), sign(1, 2, 5)}, 2)
		spansAre(t, rules, inOrder([]api.Tok{sign(0, 1, 5), sign(0, 1, class), sign(1, 2, class), sign(1, 2, 5)}), 2, want...)
	}
}

// P701: a row of symbols that are one another alone, whichever way it runs and in
// whichever order its rules are.
func TestAlone(t *testing.T) {
	up, down := []api.Rule{rule(19, -1)}, []api.Rule{rule(0, -1)}
	for symbol := range 19 {
		up = append(up, rule(symbol, symbol+1))
		down = append(down, rule(symbol+1, symbol))
	}
	var want []span
	for symbol := range 20 {
		want = append(want, span{symbol, 0, 1})
	}
	for _, rules := range [][]api.Rule{up, down} {
		for range 2 {
			spansAre(t, rules, row(0), 1, want...)
			slices.Reverse(rules)
		}
		for symbol := range 20 {
			counts(t, rules, row(0), symbol, 0, 1, 1)
		}
	}
}

// P701: places may be far apart: nothing hangs on how far.
func TestFarPlaces(t *testing.T) {
	toks := []api.Tok{sign(0, 1<<40, 1), sign(1<<40, 1<<62, 1), sign(1<<62, math.MaxInt, 1)}
	rules := []api.Rule{rule(0, 0, 0), rule(0, -2)}
	spansAre(t, rules, toks, math.MaxInt, span{0, 0, 1 << 40}, span{0, 0, 1 << 62}, span{0, 0, math.MaxInt},
		span{0, 1 << 40, 1 << 62}, span{0, 1 << 40, math.MaxInt}, span{0, 1 << 62, math.MaxInt})
	counts(t, rules, toks, 0, 0, math.MaxInt, 2)
	counts(t, rules, toks, 0, 1<<40, math.MaxInt, 1)
	counts(t, rules, toks, 0, 0, 1<<62-1, 0)
}

// P701: a row of very many signs.
func TestLongRow(t *testing.T) {
	const n = 20000
	spans := chart.Spans([]api.Rule{rule(0, -2), rule(1, 0, 0, 0)}, same(n), n)
	if len(spans) != n+n-2 || spans[n-1] != (span{0, n - 1, n}) || spans[n] != (span{1, 0, 3}) || spans[n+n-3] != (span{1, n - 3, n}) {
		t.Errorf("P701: %d spans of a long row", len(spans))
	}
}

// P701: as many signs as a text may have, by as many rules of as many parts as a
// grammar may have.
func TestFullSize(t *testing.T) {
	var rules []api.Rule
	for i := range 20 {
		rules = append(rules, rule(i, -2))
	}
	for i := range 40 {
		rules = append(rules, rule(i%20, 7*i%20, 3*i%20, 11*i%20, i%20, 13*i%20, (i+1)%20))
	}
	const n = 256
	var want []span
	for sym := range 20 {
		for from := range n {
			for to := from + 1; to <= n; to += 5 {
				want = append(want, span{sym, from, to})
			}
		}
	}
	if got := chart.Spans(rules, same(n), n); !slices.Equal(got, want) {
		t.Errorf("P701: %d spans, not %d", len(got), len(want))
	}
	for _, to := range []int{0, 1, 2, 5, 6, 200, 251, 252, 256} {
		want := 0
		if to%5 == 1 {
			want = 1
		}
		if got := chart.Count(rules, same(n), 3, 0, to, 1); got != want {
			t.Errorf("P702: Count to %d is %d", to, got)
		}
	}
}
