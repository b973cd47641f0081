package lex_test

import (
	"math/rand"
	"slices"
	"strconv"
	"strings"
	"testing"

	"interlocutor/api"
	"interlocutor/blob"
	"interlocutor/lex"
)

// P601: no signs where there are no runes, or none but blanks.
func TestNoSigns(t *testing.T) {
	for _, l := range []api.Locale{{}, words()} {
		for _, s := range []string{"", " ", "  ", "\t", "\u3000\u00a0 ", strings.Repeat(" ", 300)} {
			chosen(t, l, s)
		}
		if got := lex.Tokens(l, []int{}); len(got) > 0 {
			t.Errorf("P601: %v", got)
		}
	}
}

// P601: blanks ahead of a sign are its own, those behind it not.
func TestBlanks(t *testing.T) {
	l := having(api.Entry{Text: "pm", Class: 7, Value: 12})
	chosen(t, l, "  7", number(0, 3, 7, 1), number(1, 3, 7, 1), number(2, 3, 7, 1))
	chosen(t, l, "7  ", number(0, 1, 7, 1))
	chosen(t, l, " 7 ", number(0, 2, 7, 1), number(1, 2, 7, 1))
	chosen(t, l, "7  pm ", number(0, 1, 7, 1), word(1, 5, 7, 12), word(2, 5, 7, 12), word(3, 5, 7, 12))
	chosen(t, l, "7 / 8", number(0, 1, 7, 1), mark(1, 3, 50), mark(2, 3, 50), number(3, 5, 8, 1), number(4, 5, 8, 1))
	chosen(t, l, "\u00a0PM\t", word(0, 3, 7, 12), word(1, 3, 7, 12))
	chosen(t, l, "x 7", number(1, 3, 7, 1), number(2, 3, 7, 1))
	chosen(t, l, "7 x", number(0, 1, 7, 1))
}

// P601: other runes that look like blanks are none.
func TestNoBlanks(t *testing.T) {
	for _, r := range []int{0, 0x9, 0xa, 0xd, 0x1f, 0x21, 0xa0, 0x200b, 0x3000, -0x20, 1<<32 + 0x20} {
		if got, want := lex.Tokens(api.Locale{}, []int{r, 0x37}), []api.Tok{number(1, 2, 7, 1)}; !slices.Equal(got, want) {
			t.Errorf("P601: %x ahead: %v, not %v", r, got, want)
		}
		if got, want := lex.Ends([]int{0x37, r}), []bool{false, false, true}; !slices.Equal(got, want) {
			t.Errorf("P601: %x behind: %v, not %v", r, got, want)
		}
	}
}

// P601: digits, as many as there are from each place of a row on.
func TestDigits(t *testing.T) {
	none := api.Locale{}
	chosen(t, none, "7", number(0, 1, 7, 1))
	chosen(t, none, "0", number(0, 1, 0, 1))
	chosen(t, none, "123", number(0, 3, 123, 3), number(1, 3, 23, 2), number(2, 3, 3, 1))
	chosen(t, none, "007", number(0, 3, 7, 3), number(1, 3, 7, 2), number(2, 3, 7, 1))
	chosen(t, none, "00", number(0, 2, 0, 2), number(1, 2, 0, 1))
	chosen(t, none, "1 2", number(0, 1, 1, 1), number(1, 3, 2, 1), number(2, 3, 2, 1))
	chosen(t, none, "1x2", number(0, 1, 1, 1), number(2, 3, 2, 1))
	chosen(t, none, "\u0661\u06f2\u0969\uff14", number(0, 4, 1234, 4), number(1, 4, 234, 3), number(2, 4, 34, 2), number(3, 4, 4, 1))
	for d := range 10 {
		chosen(t, none, strconv.Itoa(d), number(0, 1, d, 1))
	}
}

// P601: the runes next to the digits are none.
func TestNoDigits(t *testing.T) {
	for _, r := range []int{0x30 + 1<<32, 0x39 - 1<<32, 0x660, 0x6f0, 0x966, -0x30, 0x40, 0x130} {
		if got := lex.Tokens(api.Locale{}, []int{r}); len(got) > 0 {
			t.Errorf("P601: %x: %v", r, got)
		}
		if got, want := lex.Tokens(api.Locale{}, []int{0x31, r, 0x32}), []api.Tok{number(0, 1, 1, 1), number(2, 3, 2, 1)}; !slices.Equal(got, want) {
			t.Errorf("P601: %x between: %v, not %v", r, got, want)
		}
	}
	chosen(t, api.Locale{}, "1/2", number(0, 1, 1, 1), mark(1, 2, 50), number(2, 3, 2, 1))
	chosen(t, api.Locale{}, "1:2", number(0, 1, 1, 1), mark(1, 2, 54), number(2, 3, 2, 1))
}

// P601: rows of 18 digits and of more; those of 19 and more are no number, but
// what is behind their first digits is.
func TestManyDigits(t *testing.T) {
	none := api.Locale{}
	nines := strings.Repeat("9", 18)
	if got, want := lex.Tokens(none, runesOf(nines))[0], number(0, 18, 999999999999999999, 18); got != want {
		t.Errorf("P601: %v, not %v", got, want)
	}
	for n := 1; n <= 60; n++ {
		for _, digits := range []string{strings.Repeat("1234567890", 6)[:n], strings.Repeat("0", n-1) + "5", strings.Repeat("9", n)} {
			for _, around := range []string{"", " ", "x", "-"} {
				holds(t, words(), runesOf(around+digits+around))
			}
			got := lex.Tokens(none, runesOf(digits))
			if len(got) != min(n, 18) || got[0].From != max(0, n-18) || got[0].To != n || got[0].Len != min(n, 18) {
				t.Errorf("P601: of %d digits: %v", n, got)
			}
		}
	}
	if got := lex.Tokens(none, runesOf("  1234567890123456789")); got[0].From != 3 {
		t.Errorf("P601: blanks ahead of 19 digits begin a number: %v", got)
	}
}

// P601: words that stand there, whole.
func TestWords(t *testing.T) {
	l := having(api.Entry{Text: "mar", Class: 1, Value: 3}, api.Entry{Text: "march", Class: 1, Value: 33}, api.Entry{Text: "ch", Class: 2, Value: -5})
	chosen(t, l, "mar", word(0, 3, 1, 3))
	chosen(t, l, "march", word(0, 3, 1, 3), word(0, 5, 1, 33), word(3, 5, 2, -5))
	chosen(t, l, "marc", word(0, 3, 1, 3))
	chosen(t, l, "ma")
	chosen(t, l, "m")
	chosen(t, l, "ar")
	chosen(t, l, "ma r")
	chosen(t, l, "marbh", word(0, 3, 1, 3))
	chosen(t, l, "MARCH", word(0, 3, 1, 3), word(0, 5, 1, 33), word(3, 5, 2, -5))
	chosen(t, l, "xch2", word(1, 3, 2, -5), number(3, 4, 2, 1))
	chosen(t, l, "chch", word(0, 2, 2, -5), word(2, 4, 2, -5))
	chosen(t, having(), "mar")
	chosen(t, having(api.Entry{Text: "aa", Class: 1}), "aaa", word(0, 2, 1, 0), word(1, 3, 1, 0))
}

// P601: words of the same text; the same word twice.
func TestWordsAlike(t *testing.T) {
	for _, x := range []struct {
		words []api.Entry
		want  []api.Tok
	}{
		{[]api.Entry{{Text: "m", Class: 9, Value: 1}, {Text: "m", Class: 2, Value: 5}}, []api.Tok{word(0, 1, 2, 5), word(0, 1, 9, 1)}},
		{[]api.Entry{{Text: "m", Class: 2, Value: 5}, {Text: "m", Class: 2, Value: -5}}, []api.Tok{word(0, 1, 2, -5), word(0, 1, 2, 5)}},
		{[]api.Entry{{Text: "m", Class: 2, Value: 5}, {Text: "m", Class: 2, Value: 5}}, []api.Tok{word(0, 1, 2, 5)}},
		{[]api.Entry{{Text: "m", Class: 2, Value: 5}, {Text: "m", Class: 1, Value: 5}, {Text: "m", Class: 2, Value: 5}}, []api.Tok{word(0, 1, 1, 5), word(0, 1, 2, 5)}},
		{[]api.Entry{{Text: "m", Class: 2, Value: 5}, {Text: "n", Class: 2, Value: 5}}, []api.Tok{word(0, 1, 2, 5)}},
	} {
		chosen(t, having(x.words...), "m", x.want...)
	}
}

// P601: words with a blank in them, of digits, of marks, of signs of more bytes.
func TestWordsOfSigns(t *testing.T) {
	l := having(api.Entry{Text: "a b", Class: 1, Value: 1}, api.Entry{Text: "a  b", Class: 1, Value: 2})
	chosen(t, l, "a b", word(0, 3, 1, 1))
	chosen(t, l, "a  b", word(0, 4, 1, 2))
	chosen(t, l, "a   b")
	chosen(t, l, "ab")
	chosen(t, l, " A\u00a0B", word(0, 4, 1, 1), word(1, 4, 1, 1))
	l = having(api.Entry{Text: "12", Class: 5, Value: 9}, api.Entry{Text: "-", Class: 4, Value: 7}, api.Entry{Text: "1-", Class: 3, Value: 6})
	chosen(t, l, "12", number(0, 2, 12, 2), word(0, 2, 5, 9), number(1, 2, 2, 1))
	chosen(t, l, "123", word(0, 2, 5, 9), number(0, 3, 123, 3), number(1, 3, 23, 2), number(2, 3, 3, 1))
	chosen(t, l, "-", word(0, 1, 4, 7), mark(0, 1, 51))
	chosen(t, l, "\u2013", word(0, 1, 4, 7), mark(0, 1, 51))
	chosen(t, l, "1-", number(0, 1, 1, 1), word(0, 2, 3, 6), word(1, 2, 4, 7), mark(1, 2, 51))
	l = having(api.Entry{Text: "\u00e9t\u65e5", Class: 6, Value: 1}, api.Entry{Text: "\U0001f600", Class: 7, Value: 2}, api.Entry{Text: "\ufffd", Class: 8, Value: 3})
	chosen(t, l, "\u00c9T\u65e51", word(0, 3, 6, 1), number(3, 4, 1, 1))
	chosen(t, l, "\U0001f600\U0001f600", word(0, 1, 7, 2), word(1, 2, 7, 2))
	chosen(t, l, "\xff ", word(0, 1, 8, 3))
	nineteen := "9876543210987654321"
	chosen(t, having(api.Entry{Text: nineteen, Class: 2, Value: 4}), nineteen, append([]api.Tok{word(0, 19, 2, 4)}, meant(having(), runesOf(nineteen))...)...)
}

// P601: each mark, by its place; other runes are no sign.
func TestMarks(t *testing.T) {
	for at, m := range []byte(api.Marks) {
		chosen(t, api.Locale{}, string(m), mark(0, 1, 50+at))
		chosen(t, api.Locale{}, "x "+string(m)+" ", mark(1, 3, 50+at), mark(2, 3, 50+at))
		for _, far := range []int{1 << 8, 1 << 16, 1 << 32, -1 << 32, -2 * int(m)} {
			if got := lex.Tokens(api.Locale{}, []int{int(m) + far}); len(got) > 0 {
				t.Errorf("P601: %x: %v", int(m)+far, got)
			}
		}
	}
	chosen(t, api.Locale{}, "()", mark(0, 1, 58), mark(1, 2, 59))
	chosen(t, api.Locale{}, "\u2019", mark(0, 1, 60))
	for r := range 0x400 {
		if r >= 0x30 && r <= 0x39 || r < 0x80 && strings.Contains(api.Marks, string(rune(r))) {
			continue
		}
		if got := lex.Tokens(api.Locale{}, []int{r}); len(got) > 0 {
			t.Errorf("P601: %x: %v", r, got)
		}
	}
}

// P601: by From, To, Class, Value, Len, none twice.
func TestOrder(t *testing.T) {
	chosen(t, words(), " ab-10",
		word(0, 2, 3, -8), word(0, 2, 3, 8), word(0, 2, 49, 1000000000), word(0, 3, 3, -1000000000),
		word(1, 2, 3, -8), word(1, 2, 3, 8), word(1, 2, 49, 1000000000), word(1, 3, 3, -1000000000),
		word(3, 4, 4, 7), mark(3, 4, 51),
		number(4, 6, 10, 2), word(4, 6, 1, 10),
		number(5, 6, 0, 1))
	lists := words().Lex
	slices.Reverse(lists)
	for _, l := range []api.Locale{words(), having(lists...)} {
		got := lex.Tokens(l, runesOf("  1-a b 10ab -- a  10 10-a b"))
		for i := 1; i < len(got); i++ {
			if inOrder(got[i-1], got[i]) >= 0 {
				t.Errorf("P601: %v is ahead of %v", got[i-1], got[i])
			}
		}
	}
}

// P601: every text of up to six signs.
func TestEveryShortText(t *testing.T) {
	alphabet := []int{' ', 'a', 'b', '1', '0', '-', 'x'}
	var each func(runes []int)
	each = func(runes []int) {
		holds(t, words(), runes)
		if len(runes) == 6 {
			return
		}
		for _, r := range alphabet {
			each(append(runes[:len(runes):len(runes)], r))
		}
	}
	each(nil)
}

// some is a text of so many pieces, by chance.
func some(by *rand.Rand, pieces []string, n int) string {
	var s strings.Builder
	for range n {
		s.WriteString(pieces[by.Intn(len(pieces))])
	}
	return s.String()
}

// P601: words and texts by chance (the same each time), the words as Resolve tells
// them.
func TestByChance(t *testing.T) {
	by := rand.New(rand.NewSource(601))
	pieces := []string{"a", "B", "ab", " ", "  ", "0", "1", "12", "1234567890", "/", "-", ".", "'", "(", "\u00c9", "\u65e5", "\xff", "\u3000", "\u2013", "\u0663", "x"}
	texts := []string{"a", "b", "ab", "a b", "b  a", "1", "12", "0", "-", "/-", "\u00e9", "\u00e9a", "\u65e5", "\ufffd", "a1", "1a", "(", "abab"}
	for range 3000 {
		l := []api.Locale{{Id: "p", Parent: -1}, {Id: "c", Parent: 0}}
		for range by.Intn(20) {
			at := by.Intn(2)
			l[at].Lex = append(l[at].Lex, api.Entry{Text: texts[by.Intn(len(texts))], Class: 1 + by.Intn(4), Value: by.Intn(5) - 2})
		}
		whole, is := blob.Resolve(l, "c")
		if !is {
			t.Fatalf("%v is not Right", l)
		}
		holds(t, whole, runesOf(some(by, pieces, by.Intn(25))))
	}
}

// P601: as many words as a chain of languages may have, and texts as long as they
// may be.
func TestMostWords(t *testing.T) {
	var l []api.Locale
	for i := range 10 {
		x := api.Locale{Id: "n" + strconv.Itoa(i), Parent: i - 1}
		for k := range 30 {
			x.Lex = append(x.Lex, api.Entry{Text: strings.Repeat("a", 1+(k+7*i)%20), Class: 1 + (k*i)%49, Value: k - i})
		}
		l = append(l, x)
	}
	whole, is := blob.Resolve(l, "n9")
	if !is || len(whole.Lex) != 300 {
		t.Fatalf("%v, %v", is, whole)
	}
	holds(t, whole, runesOf(strings.Repeat("a", 30)+"   "+strings.Repeat("a", 19)))
	got := lex.Tokens(whole, runesOf(strings.Repeat("a", api.MaxInput)))
	if first, last := lex.At(got, 0), lex.At(got, api.MaxInput-20); len(first) == 0 || len(first) != len(last) {
		t.Errorf("P601: %d signs from the first place, %d from the last but 19", len(first), len(last))
	}
}

// P601: what of a language is no word bears on nothing.
func TestOtherFields(t *testing.T) {
	runes := runesOf(" 10 ab-a b")
	want := meant(words(), runes)
	for _, x := range []api.Locale{
		{Id: "en", Parent: -1},
		{Id: "", Parent: 0, Digits: 3},
		{Id: "No Id\xff", Parent: 1 << 62, Digits: 1},
		{Id: "x", Parent: -1 << 62, Rules: []api.Rule{{Lhs: 0, Rhs: []int{-1}, Act: api.Act{P: []int{0}}}}},
		{Styles: []api.Style{{Kind: api.VDate, Parts: []api.Part{{Text: "ab"}}}}},
	} {
		x.Lex = words().Lex
		if got := lex.Tokens(x, runes); !slices.Equal(got, want) {
			t.Errorf("P601: Tokens of %v is %v, not %v", x, got, want)
		}
	}
}

// P601, P1: long rows of digits and of blanks.
func TestLongTexts(t *testing.T) {
	const n = 1 << 20
	got := lex.Tokens(words(), runesOf(strings.Repeat("5", n)))
	if len(got) != 18 || got[0] != number(n-18, n, 555555555555555555, 18) || got[17] != number(n-1, n, 5, 1) {
		t.Errorf("P601: %v", got)
	}
	got = lex.Tokens(words(), runesOf(strings.Repeat(" ", n)+"5"))
	if len(got) != n+1 || got[0] != number(0, n+1, 5, 1) || got[n] != number(n, n+1, 5, 1) {
		t.Errorf("P601: %d signs", len(got))
	}
	for _, p := range []int{0, 1, n - 1, n} {
		if at := lex.At(got, p); len(at) != 1 || at[0] != number(p, n+1, 5, 1) {
			t.Errorf("P601: At(%d) is %v", p, at)
		}
	}
	if got = lex.Tokens(words(), runesOf(strings.Repeat(" ", n))); len(got) > 0 {
		t.Errorf("P601: %d signs", len(got))
	}
}
