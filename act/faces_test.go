package act_test

import (
	"math"
	"math/rand"
	"reflect"
	"slices"
	"sync"
	"testing"

	"interlocutor/act"
	"interlocutor/api"
)

// roomy is a list with spare room behind it that is filled with x.
func roomy[T any](list []T, x T) []T {
	wide := append(slices.Clone(list), slices.Repeat([]T{x}, 8)...)
	return wide[:len(list):len(wide)]
}

// whole is all that a list has, its spare room too.
func whole[T any](list []T) []T { return slices.Clone(list[:cap(list)]) }

// wholeValues is the same of values, and of the lists in them.
func wholeValues(l []api.Value) []api.Value {
	all := whole(l)
	for i := range all {
		all[i].F = whole(all[i].F)
	}
	return all
}

// asked is an action and its parts.
type asked struct {
	a api.Act
	l []api.Value
}

// works are actions of which something comes, each list with spare room behind it.
func works() []asked {
	var list []asked
	for op, rows := range map[int][][]api.Value{
		api.APick: {vals(date(2024, 2, 29)), vals(num(5, 1)), vals(val(api.VMark))}, api.ADate: {vals(num(24, 2), word(2), num(29, 2))}, api.AThis: {vals(num(2, 1), num(29, 2))},
		api.ATime: {vals(num(9, 1), num(5, 2)), vals(num(9, 1), num(5, 2), num(7, 1))}, api.AHalf: {vals(num(9, 1), word(1)), vals(num(9, 1), num(5, 2), word(1))},
		api.AMoment: {vals(date(2024, 2, 29), val(api.VTime, 9, 30, 15))}, api.ARel: {vals(num(3, 1), word(3), word(-1))}, api.ANext: {vals(word(4))}, api.AWhole: {vals(num(7, 1))},
		api.APoint: {vals(num(1, 1), num(50, 2))}, api.AGroup: {vals(num(1, 1), num(234, 3), num(567, 3))}, api.ANeg: {vals(number(15, 1))}, api.AMoney: {vals(word(2), number(15, 1))},
		api.ADur: {vals(num(90, 2), word(60))}, api.ASum: {vals(dur(5), dur(6))}, api.ASpan: {vals(date(2024, 2, 28), date(2024, 2, 29))},
	} {
		for _, l := range rows {
			a := all(op, len(l))
			a.P = roomy(a.P, 77)
			for i := range l {
				l[i].F = roomy(l[i].F, 78)
			}
			list = append(list, asked{a, roomy(l, api.Value{Kind: 79})})
		}
	}
	return list
}

// P2: what is handed in is not changed, its spare room neither.
func TestNotChanged(t *testing.T) {
	for _, x := range works() {
		wasL, wasP := wholeValues(x.l), whole(x.a.P)
		if _, is := act.Do(x.a, x.l, leap()); !is {
			t.Errorf("op %d of %v: none", x.a.Op, x.l)
		}
		act.Do(x.a, x.l[1:], leap())
		act.Do(api.Act{Op: api.ASpan, P: x.a.P}, x.l, leap())
		for _, v := range x.l {
			act.Right(v)
			act.Year(v, leap())
		}
		if !reflect.DeepEqual(wholeValues(x.l), wasL) || !slices.Equal(whole(x.a.P), wasP) {
			t.Errorf("P2: op %d changed %v, %v", x.a.Op, x.l, x.a.P)
		}
	}
}

// P2: what is handed in is not kept, and an answer is new memory, its spare room
// too.
func TestNotKept(t *testing.T) {
	for _, x := range works() {
		first, _ := act.Do(x.a, x.l, leap())
		second, _ := act.Do(x.a, x.l, leap())
		want := text(first, true)
		wasL := wholeValues(x.l)
		wide := first.F[:cap(first.F)]
		for i := range wide {
			wide[i] = -99
		}
		if !reflect.DeepEqual(wholeValues(x.l), wasL) {
			t.Errorf("P2: op %d: the answer is what was handed in", x.a.Op)
		}
		if text(second, true) != want {
			t.Errorf("P2: op %d: two answers share memory", x.a.Op)
		}
		for _, v := range x.l {
			clear(v.F[:cap(v.F)])
		}
		clear(x.a.P)
		if text(second, true) != want {
			t.Errorf("P2: op %d: the answer hangs on what was handed in", x.a.Op)
		}
	}
	one, two := act.Sign(api.Tok{Value: 7, Len: 1}), act.Sign(api.Tok{Value: 7, Len: 1})
	clear(one.F[:cap(one.F)])
	if text(two, true) != "{1 [7 1]}" {
		t.Errorf("P2: two signs share memory: %v", two)
	}
}

// P2: no list and an empty one are the same.
func TestNilAndEmpty(t *testing.T) {
	for _, f := range [][]int{nil, {}} {
		for kind := range 12 {
			if v := val(kind, f...); act.Right(v) {
				t.Errorf("P2: Right of %v", v)
			}
		}
		if v, is := act.Do(all(api.APick, 1), vals(api.Value{Kind: api.VMark, F: f}), leap()); !is || v.Kind != api.VMark || len(v.F) > 0 {
			t.Errorf("P2: picked: %v, %v", v, is)
		}
		if year, is := act.Year(api.Value{Kind: api.VNumber, F: f}, leap()); year != 0 || is {
			t.Errorf("P2: Year: %d, %v", year, is)
		}
		for op := range 16 {
			for _, l := range [][]api.Value{nil, {}} {
				if v, is := act.Do(api.Act{Op: op, P: f}, l, leap()); is || v.Kind != 0 || len(v.F) > 0 {
					t.Errorf("P2: op %d of nothing: %v, %v", op, v, is)
				}
			}
		}
	}
}

// answers is all that works make, by their place in a list in order.
func answers(list []asked) []string {
	var told []string
	for _, x := range list {
		v, is := act.Do(x.a, x.l, leap())
		told = append(told, text(v, is))
	}
	return told
}

// P3: the same is answered the next time, whatever was asked between, and by
// several at a time.
func TestSameAgain(t *testing.T) {
	list := works()
	want := answers(list)
	by := rand.New(rand.NewSource(3))
	from := pool()
	for range 200 {
		act.Do(all(by.Intn(18)-1, 3), vals(from[by.Intn(len(from))], from[by.Intn(len(from))], from[by.Intn(len(from))]), day(1+by.Intn(9999), 1, 1))
		act.Year(num(by.Intn(100), 2), day(1+by.Intn(9999), 1, 1))
		if !slices.Equal(answers(list), want) {
			t.Fatal("P3: answered otherwise the next time")
		}
	}
	var several sync.WaitGroup
	for range 8 {
		several.Go(func() {
			for range 200 {
				if !slices.Equal(answers(list), want) {
					t.Error("P3: answered otherwise at the same time")
				}
			}
		})
	}
	several.Wait()
}

// none checks that Do answers nothing.
func none(t *testing.T, a api.Act, l []api.Value, ref api.Moment) {
	t.Helper()
	if v, is := act.Do(a, l, ref); is || v.Kind != 0 || len(v.F) > 0 {
		t.Errorf("P9: op %d, P %v, of %v from %v: %v, %v", a.Op, a.P, l, ref, v, is)
	}
}

// P1, P8, P9: an Op that is none, places that are none, too few of them, too many.
func TestWrongActs(t *testing.T) {
	for _, x := range works() {
		for _, op := range []int{-1, -16, 16, 17, 100, math.MinInt, math.MaxInt} {
			none(t, api.Act{Op: op, P: x.a.P}, x.l, leap())
		}
		for _, p := range []int{-1, len(x.l), len(x.l) + 1, math.MinInt, math.MaxInt} {
			for at := range x.a.P {
				places := slices.Clone(x.a.P)
				places[at] = p
				none(t, api.Act{Op: x.a.Op, P: places}, x.l, leap())
			}
		}
		for n := range x.a.P {
			if fitAll(x.a.Op, x.l[:n]) { // of fewer there is something, too
				continue
			}
			none(t, api.Act{Op: x.a.Op, P: x.a.P[:n]}, x.l, leap())
		}
		for _, p := range append(slices.Clone(x.a.P), 99) {
			long := append(slices.Clone(x.a.P), p, p, p, p, p, p)
			none(t, api.Act{Op: x.a.Op, P: long}, x.l, leap())
		}
	}
}

// P1, P8, P9: children that are neither signs nor what Do tells; but APick takes
// them.
func TestWrongChildren(t *testing.T) {
	for _, x := range works() {
		if x.a.Op == api.APick {
			continue
		}
		for at := range x.l {
			for n := range 9 {
				if n == len(x.l[at].F) {
					continue
				}
				l := slices.Clone(x.l)
				l[at].F = make([]int, n)
				none(t, x.a, l, leap())
			}
			for _, kind := range []int{-1, 0, 11, math.MinInt, math.MaxInt} {
				l := slices.Clone(x.l)
				l[at].Kind = kind
				none(t, x.a, l, leap())
			}
		}
	}
	for _, x := range []asked{
		{all(api.AMoment, 2), vals(date(2023, 2, 29), val(api.VTime, 1, 1, 1))}, {all(api.AMoment, 2), vals(date(2024, 2, 29), val(api.VTime, 24, 1, 1))},
		{all(api.ANeg, 1), vals(number(150, 2))}, {all(api.ANeg, 1), vals(number(math.MinInt, 0))}, {all(api.AMoney, 2), vals(word(2), number(math.MinInt, 19))}, {all(api.AMoney, 2), vals(word(math.MaxInt), number(1, 0))}, {all(api.AMoney, 2), vals(word(math.MinInt), number(1, 0))},
		{all(api.ASum, 2), vals(dur(math.MinInt), dur(math.MinInt))}, {all(api.ASum, 2), vals(dur(math.MaxInt), dur(math.MaxInt))}, {all(api.ASum, 2), vals(dur(-1), dur(2))},
		{all(api.ASpan, 2), vals(date(2023, 2, 29), date(2024, 1, 1))}, {all(api.ASpan, 2), vals(date(2023, 2, 28), date(10000, 1, 1))},
		{all(api.ADur, 2), vals(num(math.MinInt, 1), word(math.MinInt))}, {all(api.ADur, 2), vals(num(math.MaxInt, 18), word(math.MaxInt))}, {all(api.ADur, 2), vals(num(-1, 1), word(-1))},
		{all(api.ARel, 3), vals(num(math.MinInt, 1), word(1), word(-1))}, {all(api.ARel, 3), vals(num(math.MaxInt, 1), word(4), word(1))}, {all(api.ANext, 1), vals(word(math.MinInt))}, {all(api.ANext, 1), vals(word(math.MaxInt))},
		{all(api.AHalf, 2), vals(num(-1, 1), word(1))}, {all(api.AHalf, 2), vals(num(math.MinInt, 1), word(math.MinInt))}, {all(api.AWhole, 1), vals(num(most+1, 18))}, {all(api.AWhole, 1), vals(num(math.MinInt, 18))},
		{all(api.APoint, 2), vals(num(-1, 1), num(5, 1))}, {all(api.APoint, 2), vals(num(1, 1), num(-5, 1))}, {all(api.APoint, 2), vals(num(1, 1), num(5, -1))}, {all(api.APoint, 2), vals(num(1, 1), num(5, math.MaxInt))}, {all(api.APoint, 2), vals(num(1, 1), num(10, 1))},
		{all(api.AGroup, 2), vals(num(1, 1), num(1000, 3))}, {all(api.AGroup, 2), vals(num(1, 1), num(-1, 3))}, {all(api.AGroup, 2), vals(num(-1, 1), num(1, 3))}, {all(api.AGroup, 2), vals(num(math.MaxInt, 1), num(1, 3))}, {all(api.AGroup, 1), vals(num(1, 0))}, {all(api.AGroup, 1), vals(num(1, -1))}, {all(api.AGroup, 2), vals(num(1, math.MinInt), num(1, 3))},
	} {
		none(t, x.a, x.l, leap())
	}
	for _, v := range vals(api.Value{}, val(-5, 1, 2), val(99, 7), val(api.VDate), number(math.MinInt, math.MaxInt)) {
		makes(t, api.APick, vals(v), leap(), text(v, true))
	}
}

// P1, P8, P9: moments that are none: there is no day from them on, and no year of
// theirs out of bounds.
func TestWrongMoments(t *testing.T) {
	for _, ref := range []api.Moment{{}, {Y: 2024, M: 2, D: 30}, {Y: 2024, M: 13, D: 1}, {Y: 0, M: 1, D: 1}, {Y: 10000, M: 1, D: 1}, {Y: 2024, M: 2, D: 29, H: 24}, {Y: math.MinInt, M: math.MinInt, D: math.MinInt}, {Y: math.MaxInt, M: math.MaxInt, D: math.MaxInt}} {
		for weekday := range 7 {
			none(t, all(api.ANext, 1), vals(word(weekday)), ref)
		}
		for unit := 1; unit <= 4; unit++ {
			none(t, all(api.ARel, 3), vals(num(0, 1), word(unit), word(1)), ref)
		}
		if ref.Y != 2024 {
			none(t, all(api.AThis, 2), vals(num(1, 1), num(1, 1)), ref)
		}
	}
}

// P1: whatever there is, it is answered, and what is told is Right but of APick.
func TestAnything(t *testing.T) {
	by := rand.New(rand.NewSource(9))
	any := append(edges(), math.MinInt, math.MaxInt, 3, 4, 5, 6, 7, 8, 9)
	some := func() int { return any[by.Intn(len(any))] }
	list := func(n int) []int {
		var f []int
		for range n {
			f = append(f, some())
		}
		return f
	}
	for range 300_000 {
		var l []api.Value
		for range by.Intn(5) {
			l = append(l, val(by.Intn(13)-1, list(by.Intn(7))...))
		}
		a := api.Act{Op: by.Intn(18) - 1}
		for range by.Intn(5) {
			a.P = append(a.P, by.Intn(6)-1)
		}
		f := list(6)
		v, is := act.Do(a, l, api.Moment{Y: f[0], M: f[1], D: f[2], H: f[3], I: f[4], S: f[5]})
		if is && a.Op != api.APick && !act.Right(v) {
			t.Fatalf("P802: %v of %v: %v is not Right", a, l, v)
		}
		if !is && (v.Kind != 0 || len(v.F) > 0) {
			t.Fatalf("P4: %v of %v: %v beside false", a, l, v)
		}
	}
}
