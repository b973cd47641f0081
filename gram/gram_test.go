package gram_test

import (
	"math"
	"math/rand"
	"reflect"
	"slices"
	"testing"

	"interlocutor/api"
	"interlocutor/gram"
)

// pick is a rule that picks its first.
func pick(lhs int, rhs ...int) api.Rule {
	return api.Rule{Lhs: lhs, Rhs: rhs, Act: api.Act{Op: api.APick, P: []int{0}}}
}

// costs is a rule of that cost.
func costs(n int) api.Rule {
	r := pick(1, 2, -3)
	r.Cost = n
	return r
}

// does is a rule of so many Rhs that does that with these places.
func does(rhs, op int, p ...int) api.Rule {
	return api.Rule{Lhs: 1, Rhs: make([]int, rhs), Act: api.Act{Op: op, P: p}}
}

// far holds numbers that are out of all bounds, those too whose lowest bits are
// within them.
func far() []int {
	return []int{math.MinInt, math.MinInt + 1, -1 << 32, -1<<32 - 1, -1 << 31, -1 << 16, -256, -1000, -62 - 1<<32,
		256, 1000, 1 << 16, 1 << 31, 1 << 32, 1<<32 + 1, math.MaxInt - 1, math.MaxInt}
}

// right holds Right of r against want.
func right(t *testing.T, r api.Rule, want bool) {
	t.Helper()
	if got := gram.Right(r); got != want {
		t.Errorf("P401: Right(%v) is %v", r, got)
	}
}

// P401: Lhs is a symbol.
func TestRightLhs(t *testing.T) {
	for n := -300; n <= 300; n++ {
		right(t, pick(n, -1), 0 <= n && n <= 19)
	}
	for _, n := range far() {
		right(t, pick(n, -1), false)
	}
}

// P401: there are 1 to 6 Rhs; none (nil) and an empty list are the same.
func TestRightRhsCount(t *testing.T) {
	right(t, pick(0), false)
	right(t, pick(0, []int{}...), false)
	for n := range 300 {
		right(t, pick(0, make([]int, n)...), 1 <= n && n <= 6)
	}
	right(t, does(1<<20, api.APick, 0), false)
}

// P401: each Rhs is a symbol, or -1 less a class, at each place.
func TestRightRhsParts(t *testing.T) {
	edges := map[int]bool{-1: true, 0: true, 19: true, 20: false, -2: true, -51: true, -61: true, -62: false}
	for n := -300; n <= 300; n++ {
		want := -61 <= n && n <= 19
		if told, is := edges[n]; is && told != want {
			t.Fatalf("the edges say otherwise of %d", n)
		}
		rightAtEach(t, n, want)
	}
	for _, n := range far() {
		rightAtEach(t, n, false)
	}
}

// rightAtEach tries n at each place of each count of Rhs.
func rightAtEach(t *testing.T, n int, want bool) {
	t.Helper()
	for count := 1; count <= 6; count++ {
		for at := range count {
			rhs := make([]int, count)
			rhs[at] = n
			right(t, pick(3, rhs...), want)
		}
	}
}

// P401: Cost is 0 to 100.
func TestRightCost(t *testing.T) {
	for n := -300; n <= 300; n++ {
		right(t, costs(n), 0 <= n && n <= 100)
	}
	for _, n := range far() {
		right(t, costs(n), false)
	}
}

// asked holds of each Op how many P it asks for, as P401 says it.
func asked() map[int][]int {
	return map[int][]int{
		api.APick: {1}, api.ANext: {1}, api.AWhole: {1}, api.ANeg: {1},
		api.AThis: {2}, api.AMoment: {2}, api.APoint: {2}, api.AMoney: {2}, api.ADur: {2}, api.ASum: {2}, api.ASpan: {2},
		api.ADate: {3}, api.ARel: {3},
		api.ATime: {2, 3}, api.AHalf: {2, 3},
		api.AGroup: {1, 2, 3, 4, 5, 6},
	}
}

// P401: each Op has as many P as it asks for, whatever count of Rhs there is; a P
// may be there twice. Next to the first and the last Op there is none.
func TestRightPlacesCount(t *testing.T) {
	counts := asked()
	if len(counts) != 16 {
		t.Fatalf("%d Ops", len(counts))
	}
	for op := -20; op <= 40; op++ {
		for n := range 20 {
			want := slices.Contains(counts[op], n)
			for rhs := 1; rhs <= 6; rhs++ {
				right(t, does(rhs, op, make([]int, n)...), want)
			}
		}
	}
	for _, op := range far() {
		right(t, does(1, op, 0), false)
	}
	right(t, api.Rule{Rhs: []int{1}, Act: api.Act{Op: api.APick}}, false)
	right(t, does(6, api.AGroup, make([]int, 1<<20)...), false)
}

// P401: each P is a place in Rhs, for each Op and at each place among the P.
func TestRightPlaces(t *testing.T) {
	for op, counts := range asked() {
		for _, n := range counts {
			for rhs := 1; rhs <= 6; rhs++ {
				for at := range n {
					p := make([]int, n)
					for _, place := range append(far(), -2, -1, 0, rhs-1, rhs, rhs+1) {
						p[at] = place
						right(t, does(rhs, op, p...), 0 <= place && place < rhs)
					}
				}
			}
		}
	}
}

// P401: rules as a language has them, and a rule of nothing.
func TestRightRules(t *testing.T) {
	right(t, api.Rule{Lhs: 4, Rhs: []int{-1, -51, -1, -51, -1}, Act: api.Act{Op: api.ADate, P: []int{4, 2, 0}}, Cost: 2}, true)
	right(t, api.Rule{Lhs: 4, Rhs: []int{-1, -51, -1, -51, -1}, Act: api.Act{Op: api.ADate, P: []int{5, 2, 0}}, Cost: 2}, false)
	right(t, api.Rule{Lhs: 19, Rhs: []int{-61, 19, 0, -50, -1, -2}, Act: api.Act{Op: api.AGroup, P: []int{5, 4, 3, 2, 1, 0}}, Cost: 100}, true)
	right(t, api.Rule{Lhs: 5, Rhs: []int{-1, -55, -1, -7}, Act: api.Act{Op: api.AHalf, P: []int{0, 2, 3}}}, true)
	right(t, api.Rule{}, false)
}

// units is Units by P402's words: each of the symbols is looked for.
func units(rules []api.Rule) [][]int {
	lists := make([][]int, 20)
	for from := range 20 {
		for to := range 20 {
			if slices.ContainsFunc(rules, func(r api.Rule) bool { return r.Lhs == from && len(r.Rhs) == 1 && r.Rhs[0] == to }) {
				lists[from] = append(lists[from], to)
			}
		}
	}
	return lists
}

// isOpen is the last clause of Check: symbols are left out, as long as there is
// one that comes to none of those that are still there.
func isOpen(rules []api.Rule) bool {
	lists := units(rules)
	left := []int{}
	for symbol := range 20 {
		left = append(left, symbol)
	}
	for {
		n := len(left)
		left = slices.DeleteFunc(slices.Clone(left), func(symbol int) bool {
			return !slices.ContainsFunc(lists[symbol], func(to int) bool { return slices.Contains(left, to) })
		})
		if len(left) == n {
			return n == 0
		}
	}
}

// reached is Reached by P402's words: the rules are gone through till nothing is
// new.
func reached(rules []api.Rule) []int {
	in := [20]bool{0: true}
	for range 20 {
		for _, r := range rules {
			for _, part := range r.Rhs {
				if in[r.Lhs] && part >= 0 {
					in[part] = true
				}
			}
		}
	}
	list := []int{}
	for symbol, is := range in {
		if is {
			list = append(list, symbol)
		}
	}
	return list
}

// alike holds what the face tells of Right rules against the words.
func alike(t *testing.T, rules []api.Rule) {
	t.Helper()
	if got, want := gram.Units(rules), units(rules); !slices.EqualFunc(got, want, slices.Equal[[]int]) {
		t.Errorf("P402: Units(%v) is %v, not %v", rules, got, want)
	}
	if got, want := gram.Reached(rules), reached(rules); !slices.Equal(got, want) {
		t.Errorf("P402: Reached(%v) is %v, not %v", rules, got, want)
	}
	if got, want := gram.Check(rules), len(rules) <= 60 && isOpen(rules); got != want {
		t.Errorf("P402: Check(%v) is %v", rules, got)
	}
}

// told holds Units, where it is not empty, and Reached and Check against what is
// told by hand.
func told(t *testing.T, rules []api.Rule, lists map[int][]int, all []int, open bool) {
	t.Helper()
	got := gram.Units(rules)
	if len(got) != 20 {
		t.Fatalf("P402: Units(%v) is %v", rules, got)
	}
	for symbol, list := range got {
		if !slices.Equal(list, lists[symbol]) {
			t.Errorf("P402: Units(%v) has %v for %d", rules, list, symbol)
		}
	}
	if got := gram.Reached(rules); !slices.Equal(got, all) {
		t.Errorf("P402: Reached(%v) is %v", rules, got)
	}
	if got := gram.Check(rules); got != open {
		t.Errorf("P402: Check(%v) is %v", rules, got)
	}
	alike(t, rules)
}

// P402: the edges, told by hand.
func TestGrammars(t *testing.T) {
	type lists = map[int][]int
	type rules = []api.Rule
	told(t, nil, nil, []int{0}, true)
	told(t, rules{}, nil, []int{0}, true)
	told(t, rules{pick(0, -1)}, nil, []int{0}, true)
	told(t, rules{pick(0, 0)}, lists{0: {0}}, []int{0}, false)
	told(t, rules{pick(7, 7)}, lists{7: {7}}, []int{0}, false)
	told(t, rules{pick(19, 19)}, lists{19: {19}}, []int{0}, false)
	told(t, rules{pick(7, 7, -1)}, nil, []int{0}, true)
	told(t, rules{pick(7, 7, 7)}, nil, []int{0}, true)
	told(t, rules{pick(0, 1), pick(1, 0)}, lists{0: {1}, 1: {0}}, []int{0, 1}, false)
	told(t, rules{pick(0, 1), pick(1, 0, -2)}, lists{0: {1}}, []int{0, 1}, true)
	told(t, rules{pick(0, 1), pick(1, 2), pick(2, 1)}, lists{0: {1}, 1: {2}, 2: {1}}, []int{0, 1, 2}, false)
	told(t, rules{pick(0, 1), pick(0, 2), pick(1, 3), pick(2, 3)}, lists{0: {1, 2}, 1: {3}, 2: {3}}, []int{0, 1, 2, 3}, true)
	told(t, rules{pick(0, 3), pick(0, 19), pick(0, 1), pick(0, 3), pick(0, 1)}, lists{0: {1, 3, 19}}, []int{0, 1, 3, 19}, true)
	told(t, rules{pick(0, -1, 9, -2, 4), pick(4, 9, 8), pick(8, 0, 9), pick(5, 6), pick(6, -1)}, lists{5: {6}}, []int{0, 4, 8, 9}, true)
	told(t, rules{pick(3, 0), pick(0, 2), pick(1, 3)}, lists{0: {2}, 1: {3}, 3: {0}}, []int{0, 2}, true)
	told(t, rules{pick(0, -61, -1), pick(1, -61)}, nil, []int{0}, true)
	told(t, rules{pick(0, 1, 2, 3, 4, 5, 6), pick(6, 19, 18, 17, 16, 15, 14)}, nil, []int{0, 1, 2, 3, 4, 5, 6, 14, 15, 16, 17, 18, 19}, true)
}

// P402: a chain by all symbols is open, whatever the order of its rules, and
// reaches them all; closed at any place it is not.
func TestLongChain(t *testing.T) {
	chain := []api.Rule{}
	for symbol := range 19 {
		chain = append(chain, pick(symbol, symbol+1))
	}
	back := slices.Clone(chain)
	slices.Reverse(back)
	for _, rules := range [][]api.Rule{chain, back} {
		alike(t, rules)
		if !gram.Check(rules) || len(gram.Reached(rules)) != 20 {
			t.Errorf("P402: a chain: %v, %v", gram.Check(rules), gram.Reached(rules))
		}
		for to := range 20 {
			closed := append(slices.Clone(rules), pick(19, to))
			alike(t, closed)
			if gram.Check(closed) {
				t.Errorf("P402: Check of a chain closed at %d", to)
			}
		}
	}
}

// P402: 60 rules are no more than 60, 61 are, whichever they are; Units and
// Reached take more of them.
func TestHowMany(t *testing.T) {
	for _, r := range []api.Rule{pick(0, -1), pick(0, 1), pick(5, 6, 6)} {
		for _, n := range []int{0, 1, 59, 60, 61, 62, 120, 60 + 256, 60 + 1<<16} {
			rules := slices.Repeat([]api.Rule{r}, n)
			if got, want := gram.Check(rules), n <= 60; got != want {
				t.Errorf("P402: Check of %d times %v is %v", n, r, got)
			}
			alike(t, rules)
		}
	}
	rules := append(slices.Repeat([]api.Rule{pick(0, -1)}, 1000), pick(0, 5), pick(5, 6, 7))
	if got := gram.Units(rules); len(got) != 20 || !slices.Equal(got[0], []int{5}) {
		t.Errorf("P402: Units of 1002 rules is %v", got)
	}
	if got := gram.Reached(rules); !slices.Equal(got, []int{0, 5, 6, 7}) {
		t.Errorf("P402: Reached of 1002 rules is %v", got)
	}
}

// P402: all graphs of three symbols, wherever among the 20 these are.
func TestSmallGraphs(t *testing.T) {
	for _, at := range [][3]int{{0, 1, 2}, {19, 7, 0}, {4, 18, 11}} {
		for bits := range 1 << 9 {
			rules := []api.Rule{}
			for edge := range 9 {
				if bits>>edge&1 == 1 {
					rules = append(rules, pick(at[edge/3], at[edge%3]))
				}
			}
			alike(t, rules)
		}
	}
}

// some makes rules by chance, of at most so many Rhs.
func some(by *rand.Rand, n, longest int) []api.Rule {
	rules := make([]api.Rule, n)
	for i := range rules {
		rhs := make([]int, 1+by.Intn(longest))
		for k := range rhs {
			rhs[k] = by.Intn(25) - 5
			if rhs[k] < 0 {
				rhs[k] = -1 - by.Intn(61)
			}
		}
		rules[i] = pick(by.Intn(20), rhs...)
		rules[i].Cost = by.Intn(101)
	}
	return rules
}

// P402: grammars of every count of rules, by chance (the same each time).
func TestManyGrammars(t *testing.T) {
	by := rand.New(rand.NewSource(4))
	open := 0
	for n := range 65 {
		for longest := 1; longest <= 6; longest++ {
			for range 5 {
				rules := some(by, n, longest)
				alike(t, rules)
				if gram.Check(rules) {
					open++
				}
			}
		}
	}
	if open < 300 || open > 1650 {
		t.Errorf("%d of 1950 grammars are right: too few or too many to tell", open)
	}
}

// wrong holds rules that are not Right, one for each part of a rule.
func wrong() []api.Rule {
	list := []api.Rule{
		{}, pick(0), pick(0, 1, 2, 3, 4, 5, 6, 7), pick(20, 1), pick(-1, 1), pick(0, 20), pick(0, -62), pick(0, 1, 20),
		costs(-1), costs(101),
		does(2, -1, 0), does(2, 16, 0), does(2, api.APick), does(2, api.APick, 0, 0), does(2, api.APick, 2), does(2, api.APick, -1),
	}
	for _, n := range far() {
		list = append(list, pick(n, 1), pick(1, n), pick(n, n), costs(n), does(2, n, 0), does(2, api.APick, n))
	}
	return list
}

// P402: Check asks each rule, wherever it is, to be Right.
func TestCheckEachRight(t *testing.T) {
	for _, r := range wrong() {
		right(t, r, false)
		for at := range 4 {
			rules := slices.Insert([]api.Rule{pick(0, 1), pick(1, -1), pick(2, 0)}, at, r)
			if gram.Check(rules) {
				t.Errorf("P402: Check of %v", rules)
			}
		}
		if gram.Check([]api.Rule{r}) {
			t.Errorf("P402: Check of %v alone", r)
		}
	}
}

// P1, P8: Units and Reached end with rules that are not Right, and leave them as
// they are; they answer nothing.
func TestWrongRules(t *testing.T) {
	for _, r := range wrong() {
		rules := []api.Rule{pick(0, 1), r, pick(1, 0)}
		before := deep(rules)
		if got := gram.Units(rules); got != nil {
			t.Errorf("P8: Units(%v) is %v", rules, got)
		}
		if got := gram.Reached(rules); got != nil {
			t.Errorf("P8: Reached(%v) is %v", rules, got)
		}
		if !reflect.DeepEqual(rules, before) {
			t.Errorf("P2: %v has become %v", before, rules)
		}
	}
}

// deep is a copy that shares nothing.
func deep(rules []api.Rule) []api.Rule {
	list := make([]api.Rule, len(rules))
	for i, r := range rules {
		r.Rhs, r.Act.P = slices.Clone(r.Rhs), slices.Clone(r.Act.P)
		list[i] = r
	}
	return list
}

// roomy is a list of numbers with spare room, that is seen by whole.
func roomy(list ...int) (short, whole []int) {
	whole = append(slices.Clone(list), 77, 78, 79)
	return whole[:len(list)], whole
}

// P2: what is handed in, its spare room too, is not changed.
func TestNotChanged(t *testing.T) {
	rhs, wholeRhs := roomy(9, 3, 9)
	p, wholeP := roomy(2, 0, 1)
	date := api.Rule{Lhs: 0, Rhs: rhs, Act: api.Act{Op: api.ADate, P: p}, Cost: 7}
	one, wholeOne := roomy(4)
	whole := []api.Rule{pick(5, 3), date, {Lhs: 5, Rhs: one, Act: api.Act{P: p[1:2]}}, pick(9, 8), pick(66, 77), pick(55, 44)}
	before := deep(whole)
	rules := whole[:4]
	for range 3 {
		if !gram.Right(date) || !gram.Check(rules) || len(gram.Units(rules)) != 20 || len(gram.Reached(rules)) != 4 {
			t.Fatalf("P402: %v, %v, %v", gram.Check(rules), gram.Units(rules), gram.Reached(rules))
		}
	}
	if !reflect.DeepEqual(whole, before) {
		t.Errorf("P2: the rules are %v", whole)
	}
	for _, x := range []struct{ got, want []int }{
		{wholeRhs, []int{9, 3, 9, 77, 78, 79}}, {wholeP, []int{2, 0, 1, 77, 78, 79}}, {wholeOne, []int{4, 77, 78, 79}},
	} {
		if !slices.Equal(x.got, x.want) {
			t.Errorf("P2: %v has become %v", x.want, x.got)
		}
	}
}

// spoil overwrites a list and all its spare room.
func spoil(list []int) {
	list = list[:cap(list)]
	for i := range list {
		list[i] = -99
	}
}

// P2: an answer stays, whatever becomes of the rules, and of its other lists; the
// rules stay, whatever becomes of the answer.
func TestNewMemory(t *testing.T) {
	rules := []api.Rule{pick(0, 2), pick(0, 1), pick(1, 2), pick(1, 2), pick(2, 5, 6), pick(3, 3, -1), pick(6, 7)}
	before := deep(rules)
	lists, all := gram.Units(rules), gram.Reached(rules)
	for _, r := range rules {
		spoil(r.Rhs)
		spoil(r.Act.P)
	}
	want := units(before)
	for symbol := range lists {
		if !slices.Equal(lists[symbol], want[symbol]) {
			t.Errorf("P2: the list of %d has become %v", symbol, lists[symbol])
		}
		spoil(lists[symbol])
	}
	if !slices.Equal(all, reached(before)) {
		t.Errorf("P2: Reached has become %v", all)
	}
	rules = deep(before)
	spoil(gram.Reached(rules))
	for _, list := range gram.Units(rules) {
		spoil(list)
	}
	if !reflect.DeepEqual(rules, before) {
		t.Errorf("P2: the rules have become %v", rules)
	}
	alike(t, rules)
}

// P3: the same is answered the next time, whatever was asked between.
func TestSameAgain(t *testing.T) {
	by := rand.New(rand.NewSource(40))
	for n := range 61 {
		rules := some(by, n, 3)
		lists, all, open := gram.Units(rules), gram.Reached(rules), gram.Check(rules)
		gram.Units(wrong())
		gram.Check(some(by, 20, 1))
		for range 20 {
			if !reflect.DeepEqual(gram.Units(rules), lists) || !slices.Equal(gram.Reached(rules), all) || gram.Check(rules) != open {
				t.Fatalf("P3: %v is told otherwise the next time", rules)
			}
		}
	}
}

// The chapter's example.
func TestExample(t *testing.T) {
	if !gram.Check(nil) {
		t.Error("example 1: Check of no rules is false")
	}
}
