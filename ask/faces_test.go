package ask_test

import (
	"fmt"
	"math"
	"math/rand"
	"slices"
	"strings"
	"sync"
	"testing"

	"interlocutor/act"
	"interlocutor/api"
	"interlocutor/ask"
	"interlocutor/blob"
)

// far are numbers that are out of all bounds.
func far() []int {
	return []int{math.MinInt, math.MinInt + 1, -1 << 32, -1 << 31, 1 << 31, 1 << 32, 1<<32 + 1, 1 << 40, math.MaxInt - 1, math.MaxInt}
}

// roomy is a list with spare room behind it that is filled with x.
func roomy[T any](list []T, x T) []T {
	wide := append(slices.Clone(list), slices.Repeat([]T{x}, 8)...)
	return wide[:len(list):len(wide)]
}

// whole is all that a list has, its spare room too.
func whole[T any](list []T) []T { return slices.Clone(list[:cap(list)]) }

// fill writes x over all that a list has, its spare room too.
func fill[T any](list []T, x T) {
	list = list[:cap(list)]
	for i := range list {
		list[i] = x
	}
}

// isFull tells whether a list, with its spare room, has nothing but x.
func isFull[T comparable](list []T, x T) bool {
	return !slices.ContainsFunc(list[:cap(list)], func(y T) bool { return y != x })
}

// asked are texts of which one thing or several are told, each kind among them.
func asked() []string {
	return []string{"3/4/25", "1/2", "9:30 pm", "fri 9:30", "-1.5", "7", "$5", "2h 30m", "2024-1-2 - fri", "\t日本 ", "x", ""}
}

// P2: what is handed in is not changed, its spare room neither.
func TestNotChanged(t *testing.T) {
	for _, b := range [][]byte{speech(), speech()[1:], crowd(row(1, 200), nil), crowd(row(1, 201), nil), nil} {
		b = roomy(b, 77)
		was := whole(b)
		for _, id := range []string{"en", "en-x", "m", "EN"} {
			for _, s := range append(asked(), "a b", strings.Repeat(" ", 257)) {
				ask.Parse(b, id, leap(), s)
				ask.Parse(b, id, api.Moment{}, s)
			}
			for _, v := range values() {
				v.F = roomy(v.F, 7)
				wasF := whole(v.F)
				for style := range 12 {
					ask.Render(b, id, style, v)
				}
				if !slices.Equal(whole(v.F), wasF) {
					t.Errorf("P2: %v has become %v", wasF, whole(v.F))
				}
			}
		}
		if !slices.Equal(whole(b), was) {
			t.Error("P2: the bytes were changed")
		}
	}
}

// P2: an answer is new memory, its spare room too: no two lists of it share any, nor
// do those of two answers, nor does anything that is kept.
func TestNotShared(t *testing.T) {
	b, m := speech(), crowd(row(1, 100), nil)
	for _, x := range []struct {
		b  []byte
		id string
		s  string
	}{{b, "en", "1/2"}, {b, "en", "3/4/25"}, {b, "en-x", "feb 3"}, {b, "en", "7"}, {b, "en", "fri 9:30"}, {b, "9", "1:07"}, {m, "m", "a b"}} {
		first, _ := ask.Parse(x.b, x.id, leap(), x.s)
		second, _ := ask.Parse(x.b, x.id, leap(), x.s)
		want := meant(x.b, x.id, leap(), x.s)
		for i := range first.L {
			fill(first.L[i].V.F, -1000-i)
			fill(first.Texts[i], fmt.Sprint(i))
		}
		for i := range first.L {
			if !isFull(first.L[i].V.F, -1000-i) || !isFull(first.Texts[i], fmt.Sprint(i)) {
				t.Errorf("P2: %q: two lists of an answer share memory", x.s)
			}
		}
		fill(first.L, api.Reading{Cost: 77})
		fill(first.Texts, []string{"spoilt"})
		if got := line(second, api.OK); got != want {
			t.Errorf("P2: %q: two answers share memory: %s, not %s", x.s, got, want)
		}
		if got := told(x.b, x.id, leap(), x.s); got != want {
			t.Errorf("P2: %q: an answer was kept: %s, not %s", x.s, got, want)
		}
	}
}

// P2: what was handed in may be written over: nothing that was told hangs on it, and
// nothing of it is kept.
func TestNotKept(t *testing.T) {
	for _, s := range asked() {
		b := roomy(speech(), 0)
		want := meant(b, "en", leap(), s)
		a, e := ask.Parse(b, "en", leap(), s)
		fill(b, 0)
		if got := line(a, e); got != want {
			t.Errorf("P2: %q: %s, not %s: it hangs on the bytes", s, got, want)
		}
		if got := told(b, "en", leap(), s); got != "blob" {
			t.Errorf("P2: %q: the bytes were kept: %s", s, got)
		}
		copy(b, crowd(row(1, 3), nil))
		if got := told(b[:len(crowd(row(1, 3), nil))], "en", leap(), s); got != "locale" {
			t.Errorf("P2: %q: the languages were kept: %s", s, got)
		}
	}
	b, v := speech(), value(api.VDate, 2024, 2, 9)
	s, e := ask.Render(b, "en", 2, v)
	fill(b, 'x')
	fill(v.F, 77)
	if s != "feb 9, 2024" || e != api.OK {
		t.Errorf("P2: what was written hangs on what was handed in: %q", s)
	}
	if got := written(b, "en", 2, v); got != " blob" {
		t.Errorf("P2: the bytes were kept: %q", got)
	}
	if got := written(speech(), "en", 2, v); got != " range" {
		t.Errorf("P2: the value was kept: %q", got)
	}
}

// P2: no list and an empty one are the same, and what stands in spare room is not
// asked for.
func TestNilAndEmpty(t *testing.T) {
	b := speech()
	for _, none := range [][]byte{nil, {}, b[:0], b[len(b):]} {
		if got := told(none, "en", leap(), "7"); got != "blob" {
			t.Errorf("P2: no bytes: %s", got)
		}
	}
	if got := told(b[:len(b)-1], "en", leap(), "7"); got != "blob" {
		t.Errorf("P2: the last byte is spare room: %s", got)
	}
	for _, f := range [][]int{nil, {}, []int{2024, 2, 9}[:0], []int{2024, 2, 9}[:2]} {
		if got := written(b, "en", 0, api.Value{Kind: api.VDate, F: f}); got != " range" {
			t.Errorf("P2: %v: %q", f, got)
		}
	}
}

// P3, P7: the same is answered the next time, whatever was asked meanwhile, by others
// side by side, too.
func TestSameAgain(t *testing.T) {
	b, m := speech(), crowd(row(1, 70), row(60, 70))
	all := func() string {
		out := told(m, "m", leap(), "a b")
		for _, id := range []string{"en", "en-x", "fr"} {
			for _, s := range asked() {
				out += told(b, id, leap(), s) + "|"
			}
			for _, v := range values() {
				out += written(b, id, v.Kind-api.VDate, v) + "|"
			}
		}
		return out
	}
	want := all()
	var several sync.WaitGroup
	for seed := range int64(8) {
		several.Go(func() {
			by := rand.New(rand.NewSource(seed))
			for range 10 {
				told(b, "en-x-y", api.Moment{Y: 1 + by.Intn(9999), M: 1, D: 1}, asked()[by.Intn(12)])
				told(crowd(row(1, 100+by.Intn(200)), nil), "m", leap(), "a b")
				told(b[by.Intn(2):], "en", api.Moment{}, "7")
				written(b, "9", by.Intn(14), values()[by.Intn(len(values()))])
				if got := all(); got != want {
					t.Errorf("P3: %s, not %s", got, want)
				}
			}
		})
	}
	several.Wait()
}

// P4: beside an error there is nothing, though something was found already.
func TestNothingBeside(t *testing.T) {
	l := english()
	l.Rules = append(l.Rules, does(0, 0, api.ADur, at(0, 1), cheap, one))
	all := []api.Locale{l}
	for n := range 7 {
		next := api.Locale{Id: fmt.Sprint(n), Parent: n}
		for k := range 30 {
			next.Lex = append(next.Lex, word(cheap, 30*n+k, "b"))
		}
		all = append(all, next)
	}
	all[1].Lex[0] = word(one, 1, "c")
	b := blob.Encode(all)
	for s, want := range map[string]string{"3/4 bc": "over", "bc 3/4": "over", "bc": "over", "3/4 b": "", "3/4": `4,2024,3,4:4["2024-03-04" ""] 4,2024,4,3:4["2024-04-03" ""] 0-3`} {
		expect(t, b, "6", s, want)
	}
	if a, e := ask.Parse(b, "6", leap(), "bc"); e != api.Over || a.L != nil || a.Texts != nil || a.Cut || a.From != 0 || a.To != 0 {
		t.Errorf("P4: %v, %v", a, e)
	}
	if a, e := ask.Parse(b, "5", leap(), " bc "); e != api.OK || len(a.L) != 64 || !a.Cut || a.From != 1 || a.To != 3 {
		t.Errorf("P4: %v, %v", a, e)
	}
}

// P1, P8, P9: numbers, names, texts and lists that are far out of bounds are refused,
// not clamped.
func TestFarOut(t *testing.T) {
	b := speech()
	for _, n := range far() {
		for _, v := range []api.Value{value(n, 2024, 2, 9), value(n), value(api.VDate, n, 2, 9), value(api.VDate, 2024, n, 9), value(api.VDate, 2024, 2, n), value(api.VDec, n, 0), value(api.VDec, 7, n), value(api.VMoney, n, 7), value(api.VMoney, 2, n), value(api.VDur, n), value(api.VTime, n, n, n)} {
			if act.Right(v) {
				continue
			}
			for style := range 9 {
				if got := written(b, "en", style, v); got != " style" && got != " range" {
					t.Errorf("P9: %v in style %d: %q", v, style, got)
				}
			}
		}
		if got := written(b, "en", n, value(api.VDate, 2024, 2, 9)); got != " style" {
			t.Errorf("P9: style %d: %q", n, got)
		}
		if got := told(b, "en", api.Moment{Y: n, M: n, D: n, H: n, I: n, S: n}, "7"); got != "reference" {
			t.Errorf("P9: a reference of %d: %s", n, got)
		}
	}
	many := strings.Repeat("en", 1<<24)
	for _, x := range [][2]string{
		{told(b, many, leap(), "7"), "locale"},
		{told(b, "en", leap(), many), "long"},
		{told(make([]byte, 1<<24), many, leap(), many), "blob"},
		{written(b, many, 0, value(api.VDate, 2024, 2, 9)), " locale"},
		{written(b, "en", 0, value(api.VDate, make([]int, 1<<22)...)), " range"},
		{written(make([]byte, 1<<24), many, 0, value(11, make([]int, 1<<22)...)), " blob"},
	} {
		if x[0] != x[1] {
			t.Errorf("P9: %s, not %s", x[0], x[1])
		}
	}
}

// P1: texts of 256 bytes end, whatever is repeated in them.
func TestLongest(t *testing.T) {
	b := speech()
	for _, s := range append(asked(), "1", "-", "/", "1/", "1-", "--1", "$-", "1h", "1m", "h1", "fri ", "to", "7,", "\xff", "\xff7", "1:", "1 am", "jan 5 to ", "2 days ago ", "9 ", "1.") {
		if s == "" {
			continue
		}
		s = strings.Repeat(s, 256/len(s))
		for _, id := range []string{"en", "en-x-y", "9", "lone"} {
			if got, want := told(b, id, leap(), s), meant(b, id, leap(), s); got != want || got == "long" {
				t.Errorf("P1: %q: %s, not %s", s, got, want)
			}
		}
	}
}
