package lex

import (
	"cmp"
	"iter"
	"slices"

	"interlocutor/api"
	"interlocutor/fold"
)

// Runes that are neither marks nor of words alone.
const (
	blank  = 0x20
	nought = 0x30
	nine   = 0x39
)

// word is one that may stand in a text.
type word struct {
	runes        []int
	class, value int
}

// wordsOf makes the words of a language.
func wordsOf(entries []api.Entry) []word {
	var words []word
	for _, e := range entries {
		if runes, _ := fold.Fold(e.Text); len(runes) > 0 {
			words = append(words, word{runes, e.Class, e.Value})
		}
	}
	return words
}

// text is what is cut into signs, and the words that may stand in it.
type text struct {
	runes []int
	words []word
}

// starts goes through the places ahead of a rune that is no blank: signs begin
// nowhere else.
func (t text) starts(yield func(int) bool) {
	for at, r := range t.runes {
		if r != blank && !yield(at) {
			return
		}
	}
}

// from tells what there is at such a place.
func (t text) from(at int) start { return start{at: at, rest: t.runes[at:], words: t.words} }

// start is a place at which signs begin, and the runes from there on, at least
// one.
type start struct {
	at    int
	rest  []int
	words []word
}

// signs tells those that begin here, in their order, none twice. They have no From
// yet: the blanks ahead may belong to them, too.
func (s start) signs() []api.Tok {
	var signs []api.Tok
	for _, kind := range [3]iter.Seq[api.Tok]{s.numbers, s.entries, s.marks} {
		for sign := range kind {
			signs = append(signs, sign)
		}
	}
	slices.SortFunc(signs, compare)
	return slices.Compact(signs)
}

// compare holds signs of one From against each other.
func compare(a, b api.Tok) int {
	return cmp.Or(
		cmp.Compare(a.To, b.To),
		cmp.Compare(a.Class, b.Class),
		cmp.Compare(a.Value, b.Value),
		cmp.Compare(a.Len, b.Len),
	)
}

// numbers goes through the number that begins here, if there is one.
func (s start) numbers(yield func(api.Tok) bool) {
	n := s.digits()
	if n == 0 || n > api.MaxDigits {
		return
	}
	value := 0
	for _, r := range s.rest[:n] {
		value = 10*value + r - nought
	}
	yield(api.Tok{To: s.at + n, Class: api.CNumber, Value: value, Len: n})
}

// digits tells how many digits stand here. It looks no farther than one more than
// a number may have, as each place of a long row would go through all of it.
func (s start) digits() int {
	n := 0
	for n < len(s.rest) && n <= api.MaxDigits && s.rest[n] >= nought && s.rest[n] <= nine {
		n++
	}
	return n
}

// entries goes through the words that stand here.
func (s start) entries(yield func(api.Tok) bool) {
	for _, w := range s.words {
		if s.has(w.runes) && !yield(api.Tok{To: s.at + len(w.runes), Class: w.class, Value: w.value}) {
			return
		}
	}
}

// has tells whether these runes stand here.
func (s start) has(runes []int) bool {
	return len(runes) <= len(s.rest) && slices.Equal(s.rest[:len(runes)], runes)
}

// marks goes through the mark that stands here, if there is one.
func (s start) marks(yield func(api.Tok) bool) {
	for place, mark := range api.Marks {
		if s.rest[0] == int(mark) && !yield(api.Tok{To: s.at + 1, Class: api.CMark + place}) {
			return
		}
	}
}
