package ask_test

import (
	"bytes"
	"math/rand"
	"slices"
	"strings"
	"testing"

	"interlocutor/act"
	"interlocutor/api"
	"interlocutor/ask"
	"interlocutor/blob"
	"interlocutor/dec"
	"interlocutor/fold"
	"interlocutor/lex"
	"interlocutor/rank"
)

// tree is a derivation, by what its parts mean.
type tree struct {
	list []api.Value
	cost int
}

// plain derives by W4's words, each derivation by itself.
type plain struct {
	rules []api.Rule
	toks  []api.Tok
	ref   api.Moment
	known map[[3]int][]tree
}

// mostTrees is more of them than are made for a test.
const mostTrees = 3000

// part are the derivations of a symbol, or of a class, from a place to another one.
func (p plain) part(part, from, to int) []tree {
	key := [3]int{part, from, to}
	all, is := p.known[key]
	if is {
		return all
	}
	for _, tok := range p.toks {
		if tok.From == from && tok.To == to && -1-tok.Class == part {
			all = append(all, tree{list: []api.Value{act.Sign(tok)}})
		}
	}
	for _, r := range p.rules {
		if r.Lhs != part {
			continue
		}
		for _, x := range p.row(r.Rhs, from, to) {
			if v, is := act.Do(r.Act, x.list, p.ref); is {
				all = append(all, tree{[]api.Value{v}, r.Cost + x.cost})
			}
		}
	}
	p.known[key] = all
	return all
}

// row are those of parts, one behind the other.
func (p plain) row(parts []int, from, to int) []tree {
	if len(parts) == 1 {
		return p.part(parts[0], from, to)
	}
	var all []tree
	for mid := from + 1; mid < to; mid++ {
		heads := p.part(parts[0], from, mid)
		if len(heads) == 0 {
			continue
		}
		for _, y := range p.row(parts[1:], mid, to) {
			for _, x := range heads {
				all = append(all, tree{slices.Concat(x.list, y.list), x.cost + y.cost})
			}
			if len(all) > mostTrees {
				return all
			}
		}
	}
	return all
}

// derived is what a text must be answered by T1's words; false: it has more
// derivations than are made for a test.
func derived(l api.Locale, ref api.Moment, s string) (string, bool) {
	runes, _ := fold.Fold(s)
	p := plain{l.Rules, lex.Tokens(l, runes), ref, map[[3]int][]tree{}}
	least := map[string]api.Reading{}
	over := false
	for from := range runes {
		for to := from + 1; to <= len(runes); to++ {
			for symbol := range api.MaxNon {
				trees, values := p.part(symbol, from, to), map[string]bool{}
				if len(trees) > mostTrees {
					return "", false
				}
				for _, x := range trees {
					v := x.list[0]
					values[coded(v)] = true
					was, is := least[coded(v)]
					isText := symbol == 0 && from == 0 && v.Kind >= api.VDate && strings.Trim(string(toRunes(runes[to:])), " ") == ""
					if isText && (!is || x.cost < was.Cost) {
						least[coded(v)] = api.Reading{V: v, Cost: x.cost}
					}
				}
				over = over || len(values) > 200
			}
		}
	}
	if over {
		return "over", true
	}
	var list []api.Reading
	for _, r := range least {
		list = append(list, r)
	}
	slices.SortFunc(list, func(x, y api.Reading) int {
		fields := func(r api.Reading) []int { return append([]int{r.Cost, r.V.Kind, len(r.V.F)}, r.V.F...) }
		return slices.Compare(fields(x), fields(y))
	})
	return meantLine(l, list, s), true
}

func toRunes(list []int) []rune {
	var runes []rune
	for _, r := range list {
		runes = append(runes, rune(r))
	}
	return runes
}

// varied are languages by chance: "en" with other costs and more rules, and "v", which
// is like it, with many words of one text.
func varied(by *rand.Rand) []api.Locale {
	en, v := english(), api.Locale{Id: "v", Parent: 0}
	for i := range en.Rules {
		if by.Intn(3) == 0 {
			en.Rules[i].Cost = by.Intn(9)
		}
	}
	for n := range 2 + by.Intn(8) {
		en.Lex = append(en.Lex, word(cheap, 1+3*n, "a"))
	}
	for n := range 1 + by.Intn(30) {
		v.Lex = append(v.Lex, word(dear, 100+n, "b"))
	}
	v.Rules = []api.Rule{does(0, by.Intn(9), api.ADur, at(0, 1), cheap, dear), does(0, by.Intn(9), api.ADur, at(1, 0), dear, num)}
	for _, r := range []api.Rule{
		does(0, by.Intn(9), api.ADur, at(0, 1), cheap, cheap), does(0, by.Intn(9), api.ADur, at(1, 1), num, cheap), does(0, 1, api.ASum, at(0, 1), 4, cheap), does(4, by.Intn(9), api.ADur, at(0, 1), cheap, cheap), does(0, 1, api.AThis, at(0, 1), cheap, num), pick(5, 3, 0), pick(0, 1, 2, 1), does(3, 7, api.ANeg, at(0), 3, 3), does(1, 5, api.AThis, at(0, 1), cheap, cheap),
	} {
		if by.Intn(2) == 0 {
			en.Rules = append(en.Rules, r)
		}
	}
	by.Shuffle(len(en.Rules), func(i, j int) { en.Rules[i], en.Rules[j] = en.Rules[j], en.Rules[i] })
	return []api.Locale{en, v}
}

// T1: the readings of a text are the values of all derivations, no others; each costs
// as the cheapest one.
func TestAllReadings(t *testing.T) {
	by := rand.New(rand.NewSource(1201))
	pieces := []string{"1", "2", "30", "2024", "/", "-", ":", " ", "jan", "pm", "usd", "h", "m", "to", "fri", "日本", "\xff", "3/4", "feb 29", "9:30", "1.5", "2h", "5", "a", "a a", "a b", "ab", "b"}
	some, cut, over := 0, 0, 0
	for range 3000 {
		all := varied(by)
		l, _ := blob.Resolve(all, "v")
		s := ""
		for range 1 + by.Intn(4) {
			s += pieces[by.Intn(len(pieces))]
		}
		want, is := derived(l, leap(), s)
		if !is {
			continue
		}
		if got := told(blob.Encode(all), "v", leap(), s); got != want {
			t.Fatalf("T1: %q: %s, not %s, by %v, %v", s, got, want, l.Rules, l.Lex)
		}
		switch {
		case want == "over":
			over++
		case strings.Contains(want, "cut"):
			cut++
		case want != "":
			some++
		}
	}
	if some < 500 || cut < 20 || over < 20 {
		t.Errorf("of %d there are readings, of %d they are cut, of %d too many", some, cut, over)
	}
}

// spoken are values that are right, of each kind.
func spoken() []api.Value {
	list := []api.Value{value(api.VTime, 0, 0, 0), value(api.VTime, 23, 59, 59), value(api.VTime, 12, 5, 0), value(api.VMoment, 2024, 2, 29, 9, 5, 0)}
	for _, d := range [][]int{{1, 1, 1}, {40, 2, 28}, {99, 8, 1}, {100, 3, 5}, {305, 10, 7}, {1999, 12, 31}, {2024, 2, 29}, {2024, 8, 13}, {9999, 12, 31}} {
		list = append(list, value(api.VDate, d...), value(api.VSpan, slices.Concat(d, []int{9999, 12, 31})...), value(api.VSpan, slices.Concat(d, d)...))
	}
	for _, m := range []int{0, 7, 10, 15, 77, 99, 101, 999, 1234, 1_000_001, 123_456_789_012_345_678, 999_999_999_999_999_999} {
		for scale := range 19 {
			list = append(list, value(api.VDec, m, scale), value(api.VDec, -m, scale))
		}
		list = append(list, value(api.VMoney, 2, m), value(api.VMoney, 2, -m), value(api.VMoney, 10, m))
	}
	for _, s := range []int{0, 1, 59, 60, 61, 3599, 3600, 3661, 9000, 86399, 360_000, 1<<53 - 1} {
		list = append(list, value(api.VDur, s))
	}
	return slices.DeleteFunc(list, func(v api.Value) bool { return !act.Right(v) })
}

// isWhole tells whether what a style of english writes tells all that a value is, and
// that as it may be typed.
func isWhole(style int, v api.Value) bool {
	switch style {
	case 3: // with a nought behind the point it has a digit more
		return v.F[1] > 0 || max(v.F[0], -v.F[0]) < 100_000_000_000_000_000
	case 4:
		return v.F[0]%10 > 0
	case 6:
		return false
	case 8:
		return v.F[1] == 0
	}
	return true
}

// has tells whether a value is among those of an answer.
func has(a ask.Answer, v api.Value) bool {
	return slices.ContainsFunc(a.L, func(r api.Reading) bool { return rank.Cmp(r.V, v) == 0 })
}

// T2: a value that a language writes, it may read so, and each language that is like
// it, whatever digits it writes; of each reading of that the text is told again.
func TestThereAndBack(t *testing.T) {
	b := speech()
	count := map[int]int{}
	for _, id := range []string{"en", "en-x", "en-x-y", "9"} {
		for _, v := range spoken() {
			for place, x := range english().Styles {
				s, e := ask.Render(b, id, place, v)
				if x.Kind != v.Kind || e != api.OK || !isWhole(place, v) {
					continue
				}
				count[v.Kind]++
				for _, other := range []string{id, "en", "9"} {
					if place == 2 && other != id { // words are each one's own
						continue
					}
					a, e := ask.Parse(b, other, leap(), s)
					if e != api.OK || !has(a, v) {
						t.Errorf("T2: %v by %s: %q: is read by %s as %s", v, id, s, other, line(a, e))
					}
					if i := slices.IndexFunc(a.L, func(r api.Reading) bool { return rank.Cmp(r.V, v) == 0 }); i >= 0 && other == id && !slices.Contains(a.Texts[i], s) {
						t.Errorf("T2: %v by %s: %q: its texts are %q", v, id, s, a.Texts[i])
					}
				}
			}
		}
	}
	for kind, least := range map[int]int{api.VDate: 40, api.VTime: 12, api.VDec: 500, api.VMoney: 60, api.VDur: 40, api.VSpan: 60} {
		if count[kind] < least {
			t.Errorf("T2: only %d values of kind %d were written", count[kind], kind)
		}
	}
}

// T2: decimals are read as they were written, and blobs.
func TestDecimalsAndBlobs(t *testing.T) {
	b := speech()
	for _, v := range spoken() {
		if v.Kind == api.VDec {
			s := dec.Text(v.F[0], v.F[1])
			if a, e := ask.Parse(b, "en", leap(), s); e != api.OK || !has(a, v) {
				t.Errorf("T2: %v: %q: %s", v, s, line(a, e))
			}
		}
	}
	all, _ := blob.Decode(b)
	again := blob.Encode(all)
	if !bytes.Equal(again, b) {
		t.Error("T2: languages are not read as they were written")
	}
	for _, s := range asked() {
		if got, want := told(again, "en-x", leap(), s), told(b, "en-x", leap(), s); got != want {
			t.Errorf("T2: %q: %s, not %s", s, got, want)
		}
	}
}

// T3: readings are in one order, none twice, be they cut or not.
func TestOneOrder(t *testing.T) {
	by := rand.New(rand.NewSource(3))
	several := 0
	for range 400 {
		b, id, s := crowd(row(1+by.Intn(40), by.Intn(80)), row(1+by.Intn(40), 1+by.Intn(80))), "m", "a b"
		if by.Intn(2) == 0 {
			b, id, s = blob.Encode(varied(by)), "v", []string{"1/2", "a a", "ab", "1/2 aa", "5 a aa", "3-4-5", "b 5", "a b"}[by.Intn(8)]
		}
		a, e := ask.Parse(b, id, leap(), s)
		if e == api.Over {
			continue
		}
		codes := map[string]bool{}
		for i, r := range a.L {
			if i > 0 && (a.L[i-1].Cost > r.Cost || a.L[i-1].Cost == r.Cost && rank.Cmp(a.L[i-1].V, r.V) >= 0) {
				t.Errorf("T3: %q: %v", s, a.L)
			}
			codes[rank.Code(r.V)] = true
		}
		if len(codes) != len(a.L) {
			t.Errorf("T3: %q: something is there twice: %v", s, a.L)
		}
		if len(a.L) > 1 {
			several++
		}
	}
	if several < 250 {
		t.Errorf("only %d texts have several readings", several)
	}
}

// otherwise is a text in other signs that are folded alike.
func otherwise(by *rand.Rand, s string) string {
	out := ""
	for _, r := range s {
		switch {
		case by.Intn(2) == 0:
		case r >= '0' && r <= '9':
			r += []rune{0x660, 0x6f0, 0x966, 0xff10}[by.Intn(4)] - '0'
		case r >= 'a' && r <= 'z':
			r += []rune{'A', 0xff21, 0xff41}[by.Intn(3)] - 'a'
		case r == ' ':
			r = []rune(blanks)[by.Intn(17)]
		case r == '-':
			r = []rune{0x2010, 0x2011, 0x2013, 0x2015, 0x2212, 0xff0d}[by.Intn(6)]
		case r == 'û':
			r = 'Û'
		case r > ' ' && r < 0x7f:
			r += 0xfee0
		}
		out += string(r)
	}
	return out
}

// T4: texts that are folded alike have the same readings, written alike; from where to
// where they stand is each one's own.
func TestAlike(t *testing.T) {
	by := rand.New(rand.NewSource(4))
	b := speech()
	for range 3000 {
		s := []string{"3/4/25", "feb 9, 2024", "2024-1-2 - fri", "-1.5", "$5", "2h 30m", "9:30 pm", "2 days ago", "août 7", "x 7", "日本 5 日本", "7 from now", "2 months from now"}[by.Intn(13)]
		ahead, behind := strings.Repeat(" ", by.Intn(3)), strings.Repeat(" ", by.Intn(3))
		other := otherwise(by, ahead) + otherwise(by, s) + otherwise(by, behind)
		if fold.Text(other) != ahead+s+behind {
			t.Fatalf("P302: %q: %q", other, fold.Text(other))
		}
		want := told(b, "en-x", leap(), ahead+s+behind)
		got := told(b, "en-x", leap(), other)
		if got != meant(b, "en-x", leap(), other) {
			t.Fatalf("P1201: %q: %s", other, got)
		}
		if got[:strings.LastIndex(got, " ")+1] != want[:strings.LastIndex(want, " ")+1] {
			t.Errorf("T4: %q: %s, %q: %s", other, got, ahead+s+behind, want)
		}
	}
}

// T5: whatever is handed in is answered by one of the words.
func TestAnything(t *testing.T) {
	by := rand.New(rand.NewSource(5))
	numbers := append(far(), -1, 0, 1, 2, 3, 4, 5, 8, 12, 23, 24, 29, 31, 59, 60, 2024, 9999, 10000)
	some := func() int { return numbers[by.Intn(len(numbers))] }
	blobs := [][]byte{speech(), crowd(row(1, 201), nil), crowd(row(1, 90), nil), blob.Encode(varied(by)), blob.Encode(nil), nil}
	ids := []string{"en", "en", "en-x", "9", "m", "m", "v", "lone", "", "EN", "\xff"}
	refs := []api.Moment{leap(), leap(), leap(), {}, {Y: 2023, M: 2, D: 29}}
	right, count := append(values(), spoken()...), map[string]int{}
	for range 20_000 {
		which := by.Intn(len(blobs))
		b, id, ref := slices.Clone(blobs[which]), []string{"en", "m", "m", "v", "en", ""}[which], refs[by.Intn(len(refs))]
		if by.Intn(3) == 0 && len(b) > 0 {
			b[by.Intn(len(b))] = byte(by.Intn(256))
		}
		if by.Intn(20) == 0 {
			b = b[:by.Intn(len(b)+1)]
		}
		if by.Intn(3) == 0 {
			id = ids[by.Intn(len(ids))]
		}
		if by.Intn(5) == 0 {
			ref = api.Moment{Y: some(), M: some(), D: some(), H: some(), I: some(), S: some()}
		}
		s := append(asked(), "", "", "", "")[by.Intn(16)] + []string{"", "a b", " ", "ab"}[by.Intn(4)]
		if by.Intn(3) == 0 {
			s = strings.Repeat(s, by.Intn(60))
		}
		if by.Intn(4) == 0 {
			signs := make([]byte, by.Intn(300))
			by.Read(signs)
			s = string(signs)
		}
		a, e := ask.Parse(b, id, ref, s)
		if e < api.OK || e > api.Over || len(a.L) > 64 || len(a.Texts) != len(a.L) || a.From < 0 || a.To > len(s) || (len(a.L) == 0) != (a.To == 0) || a.From >= a.To && a.To > 0 {
			t.Fatalf("T5: %q from %v: %v, %v", s, ref, a, e)
		}
		if e != api.OK && line(a, e) != e.Error() {
			t.Fatalf("P4: %q: %s", s, line(a, e))
		}
		count["Parse "+e.Error()]++
		v := right[by.Intn(len(right))]
		if by.Intn(3) == 0 {
			v = value(by.Intn(13)-1, some(), some(), some(), some(), some(), some())
			v.F = v.F[:by.Intn(7)]
		}
		style := by.Intn(14) - 1
		text, e := ask.Render(b, id, style, v)
		if e != api.OK && (text != "" || e != api.BadBlob && e != api.UnknownLocale && e != api.OutOfRange && e != api.NoStyle) || len(text) > 256 {
			t.Fatalf("T5: %v in style %d: %q, %v", v, style, text, e)
		}
		count["Render "+e.Error()]++
	}
	for _, word := range []string{"Parse ok", "Parse blob", "Parse locale", "Parse long", "Parse reference", "Parse over", "Render ok", "Render blob", "Render locale", "Render range", "Render style"} {
		if count[word] < 50 {
			t.Errorf("T5: %s was answered %d times", word, count[word])
		}
	}
}
