package blob_test

import (
	"math/rand"
	"strconv"
	"testing"

	"interlocutor/api"
	"interlocutor/blob"
)

// resolves holds Resolve of each language against the words.
func resolves(t *testing.T, l []api.Locale) {
	t.Helper()
	for at, x := range l {
		got, is := blob.Resolve(l, x.Id)
		if want := resolved(l, at); !is || !same(got, want) {
			t.Errorf("P502: Resolve(%v, %q) is %v, %v, not %v", l, x.Id, got, is, want)
		}
	}
}

// P502: each of a family, by the words, and one of them by hand.
func TestResolve(t *testing.T) {
	l := family()
	resolves(t, l)
	got, is := blob.Resolve(l, "en-gb-sct")
	want := api.Locale{
		Id: "en-gb-sct", Parent: 2, Digits: 0,
		Lex:   []api.Entry{{Text: "jan", Class: 1, Value: 1}, {Text: "from now", Class: 49, Value: -1000000000}, {Text: "fortnight", Class: 2, Value: 1000000000}, {Text: "à 9", Class: 3}},
		Rules: []api.Rule{pick(0, 1), {Lhs: 1, Rhs: []int{-1, -51, -1, -51, -1}, Act: api.Act{Op: api.ADate, P: []int{4, 2, 0}}, Cost: 100}, pick(1, -1)},
		Styles: []api.Style{
			{Kind: api.VDate, Parts: []api.Part{field(0, 4), text("-"), word(1, 1), text("")}},
			{Kind: api.VSpan, Parts: []api.Part{text("\xff\x00 Z")}},
			{Kind: api.VDec, Parts: []api.Part{field(5, 9), word(5, 49)}},
			{Kind: api.VDate, Parts: []api.Part{text("the only one")}},
		},
	}
	if !is || !same(got, want) {
		t.Errorf("P502: %v, %v, not %v", got, is, want)
	}
}

// P502: Id, Parent and Digits are its own; a language that has nothing has what
// its Parent has.
func TestResolveOwn(t *testing.T) {
	l := family()
	p, _ := blob.Resolve(l, "0-9")
	got, is := blob.Resolve(l, "fr-be")
	if !is || got.Id != "fr-be" || got.Parent != 1 || got.Digits != 2 || len(got.Rules) != 2 || !same(got.Rules, p.Rules) || len(got.Lex) > 0 || len(got.Styles) > 0 {
		t.Errorf("P502: %v, %v", got, is)
	}
	if p.Id != "0-9" || p.Parent != -1 || p.Digits != 3 {
		t.Errorf("P502: %v", p)
	}
}

// P502: a chain of ten, each with something of its own, the farthest first.
func TestResolveChain(t *testing.T) {
	l := many(10)
	for i := range l {
		l[i].Parent = i - 1
		l[i].Lex = []api.Entry{{Text: "w" + strconv.Itoa(i), Class: 1 + i, Value: i}}
		l[i].Rules = []api.Rule{pick(i, -1-i)}
		l[i].Styles = []api.Style{{Kind: api.VDate, Parts: []api.Part{text(strconv.Itoa(i))}}}
	}
	resolves(t, l)
	for n := range l {
		got, is := blob.Resolve(l, "n"+strconv.Itoa(n))
		if !is || len(got.Lex) != n+1 || len(got.Rules) != n+1 || len(got.Styles) != n+1 {
			t.Fatalf("P502: %v, %v", got, is)
		}
		for i := range n + 1 {
			if got.Lex[i].Value != i || got.Rules[i].Lhs != i || got.Styles[i].Parts[0].Text != strconv.Itoa(i) {
				t.Errorf("P502: at %d: %v", i, got)
			}
		}
	}
}

// P502, P4: there is none of that name.
func TestResolveNone(t *testing.T) {
	for _, l := range [][]api.Locale{nil, {}, small(), family(), many(10)} {
		for _, id := range []string{"", "fr", "EN", "En", "en ", " en", "en-", "e", "en-gb-sct-", "n10", "a", "\x00", "\xff", "-1", "a-1\x00", string(make([]byte, 1<<16))} {
			if got, is := blob.Resolve(l, id); is || !same(got, api.Locale{}) {
				t.Errorf("P502: Resolve(%v, %q) is %v, %v", l, id, got, is)
			}
		}
	}
}

// chance makes languages that are Right, by chance.
func chance(by *rand.Rand) []api.Locale {
	words := []string{"a", "-", "a  b", "é", "日", "\n", "from now", "twentybytesareallowed"[:20], "0", "\ufffd"}
	signs := []string{"", " ", "A", "\xff\xfe", "\x00", "٣", ", ", "twentybytesareallowed"[:20]}
	l := many(by.Intn(11))
	for i := range l {
		l[i].Parent, l[i].Digits = by.Intn(i+1)-1, by.Intn(4)
		for range by.Intn(4) {
			l[i].Lex = append(l[i].Lex, api.Entry{Text: words[by.Intn(len(words))], Class: 1 + by.Intn(49), Value: by.Intn(2000000001) - 1000000000})
		}
		for range by.Intn(6) {
			lhs := by.Intn(19)
			r := pick(lhs, lhs+1+by.Intn(19-lhs))
			for range by.Intn(6) {
				r.Rhs = append(r.Rhs, by.Intn(81)-61)
			}
			r.Cost, r.Act.P[0] = by.Intn(101), by.Intn(len(r.Rhs))
			l[i].Rules = append(l[i].Rules, r)
		}
		for range by.Intn(4) {
			s := api.Style{Kind: api.VDate + by.Intn(7)}
			for range 1 + by.Intn(12) {
				s.Parts = append(s.Parts, []api.Part{text(signs[by.Intn(len(signs))]), field(by.Intn(6), by.Intn(10)), word(by.Intn(6), 1+by.Intn(49))}[by.Intn(3)])
			}
			l[i].Styles = append(l[i].Styles, s)
		}
	}
	return l
}

// P501 to P503: languages by chance (the same each time).
func TestByChance(t *testing.T) {
	by := rand.New(rand.NewSource(6))
	for range 500 {
		l := chance(by)
		right(t, l, true)
		resolves(t, l)
	}
}

// P1, P8: languages that are not Right, whatever is wrong, are answered.
func TestWrongLanguages(t *testing.T) {
	by := rand.New(rand.NewSource(7))
	numbers := append(far(), -2, -1, 0, 1, 4, 9, 10, 50)
	some := func() int { return numbers[by.Intn(len(numbers))] }
	for range 2000 {
		l := chance(by)
		for i := range l {
			x := &l[i]
			if len(x.Rules) > 0 {
				x.Rules[0] = api.Rule{Lhs: some(), Rhs: []int{some()}, Act: api.Act{Op: some(), P: []int{some()}}, Cost: some()}
			}
			if len(x.Styles) > 0 {
				x.Styles[0].Parts = []api.Part{{Kind: some(), Text: "\xff", Field: some(), Width: some(), Class: some()}}
			}
			if len(x.Lex) > 0 {
				x.Lex[0] = api.Entry{Class: some(), Value: some()}
			}
			x.Parent, x.Digits = by.Intn(13)-2, by.Intn(6)-1
		}
		if blob.Right(l) {
			continue
		}
		refuses(t, written(l))
		nothing(t, l)
	}
	for _, parents := range [][2]int{{1, 0}, {1, 1}, {0, 0}, {-2, 5}, {1 << 62, -1 << 62}} {
		l := many(2)
		l[0].Parent, l[1].Parent = parents[0], parents[1]
		right(t, l, false)
	}
}
