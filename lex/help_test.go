package lex_test

import (
	"math"
	"slices"
	"strconv"
	"strings"
	"testing"

	"interlocutor/api"
	"interlocutor/fold"
	"interlocutor/lex"
)

// runesOf are the runes of a text, folded.
func runesOf(s string) []int {
	runes, _ := fold.Fold(s)
	return runes
}

// number, word and mark are signs.
func number(from, to, value, digits int) api.Tok {
	return api.Tok{From: from, To: to, Class: 0, Value: value, Len: digits}
}

func word(from, to, class, value int) api.Tok {
	return api.Tok{From: from, To: to, Class: class, Value: value}
}

func mark(from, to, class int) api.Tok { return api.Tok{From: from, To: to, Class: class} }

// having is a language that has these words.
func having(words ...api.Entry) api.Locale { return api.Locale{Parent: -1, Lex: words} }

// words has words of each kind: one that another one begins with, one of a blank,
// of digits, of a mark, some of one text, one that is there twice.
func words() api.Locale {
	return having(
		api.Entry{Text: "ab", Class: 3, Value: -1000000000},
		api.Entry{Text: "a", Class: 49, Value: 1000000000},
		api.Entry{Text: "a", Class: 3, Value: 8},
		api.Entry{Text: "a", Class: 3, Value: -8},
		api.Entry{Text: "ab", Class: 3, Value: -1000000000},
		api.Entry{Text: "a b", Class: 2},
		api.Entry{Text: "10", Class: 1, Value: 10},
		api.Entry{Text: "-", Class: 4, Value: 7},
		api.Entry{Text: "1-a", Class: 5, Value: 1},
		api.Entry{Text: "\u00e9\u65e5", Class: 6, Value: 2},
	)
}

// firstSign is the first place from p on whose rune is no blank; n, if none is.
func firstSign(runes []int, p int) int {
	for p < len(runes) && runes[p] == 0x20 {
		p++
	}
	return p
}

// row is the digits from q on, all of them.
func row(runes []int, q int) string {
	var digits strings.Builder
	for ; q < len(runes) && runes[q] >= 0x30 && runes[q] <= 0x39; q++ {
		digits.WriteByte(byte(runes[q]))
	}
	return digits.String()
}

// stands tells whether the text's runes do so from q on.
func stands(runes []int, q int, text []rune) bool {
	for i, r := range text {
		if q+i >= len(runes) || runes[q+i] != int(r) {
			return false
		}
	}
	return true
}

// meantAt are the signs of one place, by P601's words, in no order.
func meantAt(l api.Locale, runes []int, p int) []api.Tok {
	q := firstSign(runes, p)
	if q == len(runes) {
		return nil
	}
	var signs []api.Tok
	if digits := row(runes, q); len(digits) >= 1 && len(digits) <= 18 {
		value, _ := strconv.Atoi(digits)
		signs = append(signs, number(p, q+len(digits), value, len(digits)))
	}
	for _, e := range l.Lex {
		if text := []rune(e.Text); stands(runes, q, text) {
			signs = append(signs, word(p, q+len(text), e.Class, e.Value))
		}
	}
	for at, m := range []byte("/-.,:+$%()'") {
		if runes[q] == int(m) {
			signs = append(signs, mark(p, q+1, 50+at))
		}
	}
	return signs
}

// fields are a sign's, in the order in which signs are told.
func fields(x api.Tok) []int { return []int{x.From, x.To, x.Class, x.Value, x.Len} }

func inOrder(a, b api.Tok) int { return slices.Compare(fields(a), fields(b)) }

// meant is Tokens by P601's words.
func meant(l api.Locale, runes []int) []api.Tok {
	var signs []api.Tok
	for p := range runes {
		for _, x := range meantAt(l, runes, p) {
			if !slices.Contains(signs, x) {
				signs = append(signs, x)
			}
		}
	}
	slices.SortFunc(signs, inOrder)
	return signs
}

// meantEnds is Ends by P601's words.
func meantEnds(runes []int) []bool {
	var ends []bool
	for p := range len(runes) + 1 {
		ends = append(ends, firstSign(runes, p) == len(runes))
	}
	return ends
}

// holds holds Tokens, At and Ends of a text against the words.
func holds(t *testing.T, l api.Locale, runes []int) {
	t.Helper()
	want := meant(l, runes)
	got := lex.Tokens(l, runes)
	if !slices.Equal(got, want) {
		t.Fatalf("P601: Tokens(%v, %x) is %v, not %v", l.Lex, runes, got, want)
	}
	if got := lex.Ends(runes); !slices.Equal(got, meantEnds(runes)) {
		t.Fatalf("P601: Ends(%x) is %v", runes, got)
	}
	holdsAt(t, got, len(runes))
}

// holdsAt holds At of each place, and of those that are none, against the words.
func holdsAt(t *testing.T, toks []api.Tok, n int) {
	t.Helper()
	places := []int{-1, -n, n + 1, math.MinInt, math.MaxInt, 1 << 32, -1 << 32}
	for p := range n + 1 {
		places = append(places, p, p+1<<32)
	}
	for _, p := range places {
		var want []api.Tok
		for _, x := range toks {
			if x.From == p {
				want = append(want, x)
			}
		}
		if got := lex.At(toks, p); !slices.Equal(got, want) {
			t.Fatalf("P601: At(%v, %d) is %v, not %v", toks, p, got, want)
		}
	}
}

// chosen asks Tokens for just these.
func chosen(t *testing.T, l api.Locale, s string, want ...api.Tok) {
	t.Helper()
	if got := lex.Tokens(l, runesOf(s)); !slices.Equal(got, want) {
		t.Errorf("P601: Tokens of %q is %v, not %v", s, got, want)
	}
	holds(t, l, runesOf(s))
}
