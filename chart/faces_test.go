package chart_test

import (
	"math"
	"math/rand"
	"reflect"
	"slices"
	"sync"
	"testing"

	"interlocutor/api"
	"interlocutor/chart"
)

// roomy is a list with spare room behind it that is filled with x.
func roomy[T any](list []T, x T) []T {
	wide := append(slices.Clone(list), x, x, x)
	return wide[:len(list):len(wide)]
}

// handed are rules and signs, each list with spare room behind it.
func handed() ([]api.Rule, []api.Tok) {
	rules := []api.Rule{rule(0, 0, -52, 0), rule(0, 1), rule(1, -1), rule(1, -2, -1), rule(0, 0, 1, 1, 0)}
	for i := range rules {
		rules[i].Rhs = roomy(rules[i].Rhs, 77)
		rules[i].Act.P = roomy(rules[i].Act.P, 78)
	}
	return roomy(rules, api.Rule{Lhs: 79}), roomy(row(0, 51, 0, 51, 1, 0), api.Tok{From: 80})
}

// whole is all that a list has, its spare room too.
func whole[T any](list []T) []T { return slices.Clone(list[:cap(list)]) }

// wholeRules is the same of rules, and of the lists in them.
func wholeRules(rules []api.Rule) []api.Rule {
	all := whole(rules)
	for i := range all {
		all[i].Rhs, all[i].Act.P = whole(all[i].Rhs), whole(all[i].Act.P)
	}
	return all
}

// P2: what is handed in is not changed, its spare room neither.
func TestNotChanged(t *testing.T) {
	rules, toks := handed()
	wasRules, wasToks := wholeRules(rules), whole(toks)
	if len(chart.Spans(rules, toks, 6)) < 5 || chart.Count(rules, toks, 0, 0, 6, most) == 0 {
		t.Fatal("nothing is told")
	}
	chart.Spans(rules, toks, 5)
	chart.Count(rules, toks, 0, 2, 6, most)
	chart.Count(rules, toks, 0, 0, 6, most+1)
	if !reflect.DeepEqual(wholeRules(rules), wasRules) || !slices.Equal(whole(toks), wasToks) {
		t.Errorf("P2: changed: %v, %v", rules, toks)
	}
}

// P2: what is handed in is not kept, and an answer is new memory, its spare room
// too.
func TestNotKept(t *testing.T) {
	rules, toks := handed()
	first := chart.Spans(rules, toks, 6)
	want := slices.Clone(first)
	n := chart.Count(rules, toks, 0, 0, 6, most)
	for _, r := range rules {
		r.Rhs[0] = -9
	}
	clear(rules)
	clear(toks)
	if !slices.Equal(first, want) {
		t.Error("P2: an answer hangs on what was handed in")
	}
	rules, toks = handed()
	second := chart.Spans(rules, toks, 6)
	clear(first[:cap(first)])
	if !slices.Equal(second, want) {
		t.Error("P2: two answers share memory")
	}
	if !slices.Equal(chart.Spans(rules, toks, 6), want) || chart.Count(rules, toks, 0, 0, 6, most) != n {
		t.Error("P2: something was kept")
	}
}

// P2: no list and an empty one are the same.
func TestNilAndEmpty(t *testing.T) {
	for _, rules := range [][]api.Rule{nil, {}} {
		for _, toks := range [][]api.Tok{nil, {}} {
			for _, size := range []int{0, 5} {
				if got := chart.Spans(rules, toks, size); len(got) > 0 {
					t.Errorf("P2: %v", got)
				}
			}
			if got := chart.Count(rules, toks, 0, 0, 1, most); got != 0 {
				t.Errorf("P2: %d", got)
			}
		}
	}
}

// P3: the same is answered the next time, whatever was asked between, and by
// several at a time.
func TestSameAgain(t *testing.T) {
	rules, toks := handed()
	want, n := chart.Spans(rules, toks, 6), chart.Count(rules, toks, 0, 0, 6, most)
	by := rand.New(rand.NewSource(3))
	for range 50 {
		between := signs(by, 5)
		chart.Spans(some(by), between, 5)
		chart.Count(some(by), between, 0, 0, 5, most)
		if !slices.Equal(chart.Spans(rules, toks, 6), want) || chart.Count(rules, toks, 0, 0, 6, most) != n {
			t.Fatal("P3: answered otherwise the next time")
		}
	}
	var all sync.WaitGroup
	for range 8 {
		all.Go(func() {
			for range 20 {
				if !slices.Equal(chart.Spans(rules, toks, 6), want) || chart.Count(rules, toks, 0, 0, 6, most) != n {
					t.Error("P3: answered otherwise at the same time")
				}
			}
		})
	}
	all.Wait()
}

// wrongRules holds rules that gram.Check does not allow.
func wrongRules() [][]api.Rule {
	good := rule(0, -1)
	dear, cheap, op, place, places := good, good, good, good, good
	dear.Cost, cheap.Cost = 101, -1
	op.Act.Op = 16
	place.Act.P = []int{1}
	places.Act.P = nil
	all := [][]api.Rule{{good, dear}, {good, cheap}, {good, op}, {good, place}, {good, places},
		slices.Repeat([]api.Rule{good}, 61), {good, rule(0, 0)}, {good, rule(0, 1), rule(1, 0)}, {good, rule(7, 7)},
		{good, rule(0)}, {good, rule(0, -1, -1, -1, -1, -1, -1, -1)}, {rule(0)}, {{}}}
	for _, n := range []int{-1, 20, 21, 256, 1 << 32, math.MinInt, math.MaxInt} {
		all = append(all, []api.Rule{good, rule(n, -1)})
	}
	for _, n := range []int{-62, 20, 256, -1 << 32, 1 << 32, math.MinInt, math.MaxInt} {
		all = append(all, []api.Rule{good, rule(0, n)}, []api.Rule{good, rule(1, -1, n)}, []api.Rule{rule(1, n, -1), good})
	}
	return all
}

// P1, P8, P9: rules that may not be are refused.
func TestWrongRules(t *testing.T) {
	for _, rules := range wrongRules() {
		spansAre(t, rules, row(0, 0), 2)
		counts(t, rules, row(0, 0), 0, 0, 1, 0)
		counts(t, rules, row(0, 0), 1, 0, 2, 0)
	}
}

// P1, P8, P9: signs that may not be are refused, wherever they are among others.
func TestWrongSigns(t *testing.T) {
	rules := []api.Rule{rule(0, -1), rule(0, 0, 0), rule(0, -1, 0, -1)}
	for _, x := range []api.Tok{sign(-1, 1, 0), sign(-1, 0, 0), sign(-2, -1, 0), sign(math.MinInt, 1, 0), sign(math.MinInt, math.MaxInt, 0),
		sign(0, 0, 0), sign(1, 1, 0), sign(1, 0, 0), sign(2, 1, 0), sign(math.MaxInt, 1, 0), sign(1, math.MinInt, 0), sign(math.MaxInt, math.MaxInt, 0)} {
		for at := range 4 {
			toks := slices.Insert(row(0, 0, 0), at, x)
			spansAre(t, rules, toks, 3)
			spansAre(t, rules, toks, math.MaxInt)
			counts(t, rules, toks, 0, 0, 1, 0)
			counts(t, rules, toks, 0, x.From, x.To, 0)
		}
	}
	// beyond the size; Count has none
	for _, size := range []int{2, 1, 0, -1, math.MinInt} {
		spansAre(t, rules, row(0, 0, 0), size)
	}
	spansAre(t, rules, row(0, 0), 2, span{0, 0, 1}, span{0, 0, 2}, span{0, 1, 2})
	spansAre(t, rules, nil, -1)
}

// P1, P8: signs in another order, or there twice.
func TestSignsAnyhow(t *testing.T) {
	rules := []api.Rule{rule(0, -1), rule(0, 0, 0)}
	toks := row(0, 0, 0, 0)
	want := chart.Spans(rules, toks, 4)
	slices.Reverse(toks)
	spansAre(t, rules, toks, 4, want...)
	counts(t, rules, toks, 0, 0, 4, 5)
	spansAre(t, rules, append(toks, toks...), 4, want...)
	counts(t, rules, append(toks, toks...), 0, 0, 1, 2)
}

// P1, P9: a symbol or a most out of bounds is refused, not clamped.
func TestWrongNumbers(t *testing.T) {
	rules := []api.Rule{rule(0, -1), rule(19, -1)}
	for _, sym := range []int{-1, -2, 20, 21, 256, 1 << 32, -1 << 32, math.MinInt, math.MaxInt} {
		counts(t, rules, row(0), sym, 0, 1, 0)
	}
	for _, k := range []int{-1, -5, most + 1, most + 2, 1 << 32, -1 << 32, math.MinInt, math.MaxInt} {
		for _, sym := range []int{0, 19} {
			if got := chart.Count(rules, row(0), sym, 0, 1, k); got != 0 {
				t.Errorf("P9: Count with most %d is %d", k, got)
			}
		}
	}
	counts(t, rules, row(0), 19, 0, 1, 1)
}

// P1: whatever plain data is handed in, both answer.
func TestAnything(t *testing.T) {
	by := rand.New(rand.NewSource(1))
	far := []int{math.MinInt, -1 << 32, -62, -61, -2, -1, 0, 1, 2, 3, 5, 19, 20, 60, 61, 1 << 32, math.MaxInt}
	any := func() int { return far[by.Intn(len(far))] }
	list := func(n int) []int {
		var l []int
		for range by.Intn(n) {
			l = append(l, any())
		}
		return l
	}
	for range 20000 {
		var rules []api.Rule
		var toks []api.Tok
		for range by.Intn(4) {
			rules = append(rules, api.Rule{Lhs: any(), Rhs: list(4), Act: api.Act{Op: by.Intn(20) - 2, P: list(4)}, Cost: any()})
		}
		for range by.Intn(3) {
			rules = append(rules, rule(by.Intn(3), -1-by.Intn(3)))
		}
		for range by.Intn(5) {
			toks = append(toks, api.Tok{From: any(), To: any(), Class: any(), Value: any(), Len: any()})
		}
		chart.Spans(rules, toks, any())
		if k := any(); chart.Count(rules, toks, any(), any(), any(), k) > max(k, 0) {
			t.Fatalf("P1: more than %d", k)
		}
	}
}
