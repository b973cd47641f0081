package lex_test

import (
	"math"
	"math/rand"
	"reflect"
	"slices"
	"strings"
	"testing"

	"interlocutor/api"
	"interlocutor/lex"
)

// P601: At, by hand.
func TestAt(t *testing.T) {
	toks := lex.Tokens(words(), runesOf("ab x10"))
	for _, x := range []struct {
		from int
		want []api.Tok
	}{
		{0, []api.Tok{word(0, 1, 3, -8), word(0, 1, 3, 8), word(0, 1, 49, 1000000000), word(0, 2, 3, -1000000000)}},
		{1, nil}, {2, nil}, {3, nil},
		{4, []api.Tok{number(4, 6, 10, 2), word(4, 6, 1, 10)}},
		{5, []api.Tok{number(5, 6, 0, 1)}},
		{6, nil}, {7, nil}, {99, nil}, {-1, nil}, {-99, nil}, {math.MaxInt, nil}, {math.MinInt, nil},
	} {
		if got := lex.At(toks, x.from); !slices.Equal(got, x.want) {
			t.Errorf("P601: At(%d) is %v, not %v", x.from, got, x.want)
		}
	}
}

// P601: At of no signs, and all places' together.
func TestAtAll(t *testing.T) {
	for _, from := range []int{-1, 0, 1, math.MaxInt, math.MinInt} {
		if got := append(lex.At(nil, from), lex.At([]api.Tok{}, from)...); len(got) > 0 {
			t.Errorf("P601: At(none, %d) is %v", from, got)
		}
	}
	runes := runesOf("  1-a b 10ab -- a  10 10-a b x")
	toks := lex.Tokens(words(), runes)
	var all []api.Tok
	for p := range len(runes) + 1 {
		all = append(all, lex.At(toks, p)...)
	}
	if len(toks) == 0 || !slices.Equal(all, toks) {
		t.Errorf("P601: %v, not %v", all, toks)
	}
	for n := range toks {
		holdsAt(t, toks[:n], len(runes))
		holdsAt(t, toks[n:], len(runes))
	}
}

// P601: Ends, by hand.
func TestEnds(t *testing.T) {
	for _, x := range []struct {
		s    string
		want []bool
	}{
		{"", []bool{true}},
		{"a", []bool{false, true}},
		{"ab7", []bool{false, false, false, true}},
		{" ", []bool{true, true}},
		{" \t\u3000", []bool{true, true, true, true}},
		{"a ", []bool{false, true, true}},
		{"a  ", []bool{false, true, true, true}},
		{" a", []bool{false, false, true}},
		{"a b", []bool{false, false, false, true}},
		{" a  b  ", []bool{false, false, false, false, false, true, true, true}},
		{"-\n", []bool{false, false, true}},
		{"\xff ", []bool{false, true, true}},
	} {
		if got := lex.Ends(runesOf(x.s)); !slices.Equal(got, x.want) {
			t.Errorf("P601: Ends of %q is %v, not %v", x.s, got, x.want)
		}
	}
	if got := lex.Ends([]int{}); !slices.Equal(got, []bool{true}) {
		t.Errorf("P601: Ends of no runes is %v", got)
	}
}

// roomy is a list with spare room, filled with its own.
func roomy[T any](list []T, spare ...T) []T {
	return append(slices.Clone(list), spare...)[:len(list)]
}

// whole is all that a list has, in its spare room too.
func whole[T any](list []T) []T { return slices.Clone(list[:cap(list)]) }

// P2: what is handed in, its spare room too, is not changed, and what stands in
// spare room is not told.
func TestNotChanged(t *testing.T) {
	for _, s := range []string{"", " ", "ab 10-a b", "1234567890123456789 ", "x"} {
		l := words()
		l.Lex = roomy(l.Lex, api.Entry{Text: "x", Class: 9, Value: 9})
		runes := roomy(runesOf(s), 'b', ' ', '0', 'a')
		toks := lex.Tokens(l, runes)
		if !slices.Equal(toks, meant(words(), runesOf(s))) {
			t.Errorf("P2: Tokens of %q is %v", s, toks)
		}
		if ends := lex.Ends(runes); !slices.Equal(ends, meantEnds(runesOf(s))) {
			t.Errorf("P2: Ends of %q is %v", s, ends)
		}
		toks = roomy(toks, mark(len(s)+1, len(s)+2, 50), mark(len(s)+1, len(s)+2, 51))
		allToks := whole(toks)
		holdsAt(t, toks, len(s)+1)
		wantLex := append(words().Lex, api.Entry{Text: "x", Class: 9, Value: 9})
		wantRunes := append(runesOf(s), 'b', ' ', '0', 'a')
		if !slices.Equal(l.Lex[:len(wantLex)], wantLex) || !slices.Equal(runes[:len(wantRunes)], wantRunes) || !slices.Equal(whole(toks), allToks) {
			t.Errorf("P2: of %q, what was handed in has become %v, %v, %v", s, l.Lex[:len(wantLex)], runes[:len(wantRunes)], whole(toks))
		}
	}
}

// spoil overwrites a list and its spare room.
func spoil[T any](list []T, with T) {
	list = list[:cap(list)]
	for i := range list {
		list[i] = with
	}
}

// P2: an answer stays, whatever becomes of what was handed in and of other
// answers, and these, whatever becomes of the answer.
func TestNotKept(t *testing.T) {
	s := " 10 ab-a b  "
	want := meant(words(), runesOf(s))
	l, runes := words(), runesOf(s)
	toks, ends := lex.Tokens(l, runes), lex.Ends(runes)
	spoil(l.Lex, api.Entry{Text: "b", Class: 8, Value: 8})
	spoil(runes, '7')
	if !slices.Equal(toks, want) || !slices.Equal(ends, meantEnds(runesOf(s))) {
		t.Errorf("P2: the answers have become %v, %v", toks, ends)
	}
	for p := range len(s) + 1 {
		at := lex.At(toks, p)
		spoil(at, mark(9, 9, 9))
		spoil(lex.At(toks, p), mark(8, 8, 8))
		if !slices.Equal(toks, want) || slices.Contains(at, mark(8, 8, 8)) {
			t.Fatalf("P2: At(%d) shares memory: %v", p, toks)
		}
	}
	at := lex.At(toks, 0)
	spoil(toks, mark(7, 7, 7))
	if !slices.Equal(at, want[:len(at)]) || len(at) == 0 {
		t.Errorf("P2: the answer of At has become %v", at)
	}
	runes = runesOf(s)
	spoil(lex.Tokens(words(), runes), mark(6, 6, 6))
	spoil(lex.Ends(runes), true)
	holds(t, words(), runes)
}

// P2: an answer's memory is no other's, its spare room too.
func TestNewMemory(t *testing.T) {
	for _, s := range []string{"1", "10 ab", strings.Repeat(" ab 10", 40)} {
		runes := runesOf(s)
		toks := lex.Tokens(words(), runes)
		for _, pair := range [][2]any{
			{toks, lex.Tokens(words(), runes)}, {lex.Ends(runes), lex.Ends(runes)},
			{toks, lex.At(toks, 0)}, {lex.At(toks, 0), lex.At(toks, 0)},
		} {
			if a, b := reflect.ValueOf(pair[0]), reflect.ValueOf(pair[1]); within(a, b) || within(b, a) {
				t.Errorf("P2: two answers of %q share memory", s)
			}
		}
	}
}

// within tells whether list a begins within the memory of b.
func within(a, b reflect.Value) bool {
	return a.Pointer() >= b.Pointer() && a.Pointer() < b.Pointer()+uintptr(b.Cap())*b.Type().Elem().Size()
}

// P3: the same is answered the next time, whatever was asked between.
func TestSameAgain(t *testing.T) {
	texts := []string{"", " ab 10", "10-a b", strings.Repeat("9", 19), "x"}
	for range 3 {
		for _, s := range texts {
			holds(t, words(), runesOf(s))
			holds(t, api.Locale{}, runesOf(s))
			holds(t, having(api.Entry{Text: "x", Class: 1}), runesOf(s))
			lex.Tokens(having(api.Entry{Class: -1}), []int{-1})
			lex.At([]api.Tok{{From: 5}, {From: -5}}, 0)
		}
	}
}

// far holds numbers that are no rune's, no class, no place.
func far() []int {
	return []int{math.MinInt, math.MinInt + 1, -1 << 62, -1 << 32, -1, 1 << 31, 1<<32 + 0x20, 1<<32 + 0x30, 1<<32 + 0x2d, 1<<32 + 'a', 0x110000, 0xd800, math.MaxInt - 1, math.MaxInt}
}

// P8, P9: runes that are none are no signs, and are not cut to some.
func TestWrongRunes(t *testing.T) {
	for _, r := range far() {
		holds(t, words(), []int{r})
		holds(t, words(), []int{r, ' ', 'a', r, '1', r, ' ', '0', '-', r})
		if got := lex.Tokens(words(), []int{r}); len(got) > 0 {
			t.Errorf("P9: %x is %v", r, got)
		}
	}
}

// P1, P8: words that may not be are answered, whatever is wrong; one without a text
// stands nowhere; the right ones beside them stay.
func TestWrongWords(t *testing.T) {
	runes := runesOf(" a 7-")
	right := having(api.Entry{Text: "a", Class: 1, Value: 1})
	want := meant(right, runes)
	for _, text := range []string{"", " a", "a ", " ", "\xff", "\xc3", strings.Repeat("a", 1<<16), strings.Repeat(" ", 1<<16)} {
		for _, n := range append(far(), 0, 1, 50) {
			l := having(api.Entry{Text: text, Class: n, Value: n}, right.Lex[0], api.Entry{Text: text, Class: 1, Value: n})
			got := lex.Tokens(l, runes)
			for _, x := range want {
				if !slices.Contains(got, x) {
					t.Errorf("P8: with %q, %d beside it: %v", text[:min(len(text), 9)], n, got)
				}
			}
			for _, x := range got {
				if x.From >= x.To {
					t.Errorf("P8: %v has no length", x)
				}
			}
		}
	}
	if got := lex.Tokens(having(api.Entry{Class: 3, Value: 3}, right.Lex[0]), runes); !slices.Equal(got, want) {
		t.Errorf("P8: a word without a text stands somewhere: %v", got)
	}
	l := having()
	for n := range 5000 {
		l.Lex = append(l.Lex, api.Entry{Text: "a", Class: n % 7, Value: n % 11})
	}
	if got := lex.Tokens(l, runesOf("a")); len(got) != 77 {
		t.Errorf("P8: %d signs of 77 words", len(got))
	}
}

// P1, P2, P8: signs that Tokens does not tell are answered, and not changed.
func TestWrongSigns(t *testing.T) {
	by := rand.New(rand.NewSource(8))
	numbers := append(far(), 0, 1, 2, 3)
	one := func() int { return numbers[by.Intn(len(numbers))] }
	for range 2000 {
		var toks []api.Tok
		for range by.Intn(12) {
			toks = append(toks, api.Tok{From: one(), To: one(), Class: one(), Value: one(), Len: one()})
		}
		before := slices.Clone(toks)
		for _, from := range numbers {
			spoil(lex.At(toks, from), api.Tok{})
		}
		if !slices.Equal(toks, before) {
			t.Fatalf("P2: %v has become %v", before, toks)
		}
	}
}
