package rank_test

import (
	"math"
	"math/rand"
	"reflect"
	"slices"
	"sync"
	"testing"

	"interlocutor/api"
	"interlocutor/rank"
)

// roomy is a list with spare room behind it that is filled with x.
func roomy[T any](list []T, x T) []T {
	wide := append(slices.Clone(list), slices.Repeat([]T{x}, 8)...)
	return wide[:len(list):len(wide)]
}

// whole is all that readings have, their spare room and that of their fields too.
func whole(l []api.Reading) []api.Reading {
	all := slices.Clone(l[:cap(l)])
	for i, r := range all {
		all[i].V.F = slices.Clone(r.V.F[:cap(r.V.F)])
	}
	return all
}

// spoil writes over all that readings have, their spare room and that of their
// fields too.
func spoil(l []api.Reading) {
	l = l[:cap(l)]
	for i, r := range l {
		wide := r.V.F[:cap(r.V.F)]
		for k := range wide {
			wide[k] = 77
		}
		l[i] = at(78, value(79, 80))
	}
}

// crowd are readings with spare room: some of one value, of which some have the same
// fields and some a piece of others'.
func crowd() []api.Reading {
	one, two := roomy([]int{2024, 2, 29}, -9), roomy([]int{1, 2, 3, 4, 5, 6}, -9)
	l := list(at(3, value(5, 9, 30, 0)), at(2, value(4, one...)), at(1, value(10, two...)), at(5, value(4, two[:3]...)), at(4, value(4, two[3:]...)), at(0, value(7, two[1:3]...)), at(1, value(9, two[1:2]...)), at(2, value(4, one...)), at(1, value(4, one...)), at(6, value(3)), at(2, value(6, two...)))
	return roomy(l, at(-1, value(11, one...)))
}

const crowded = 9 // values in crowd

// P2: what is handed in is not changed, its spare room neither.
func TestNotChanged(t *testing.T) {
	for most := -1; most < crowded+3; most++ {
		l := crowd()
		was := whole(l)
		rank.Best(l, most)
		for _, r := range l {
			rank.Code(r.V)
			rank.Cmp(r.V, l[0].V)
		}
		if !reflect.DeepEqual(whole(l), was) {
			t.Errorf("P2: Best of %d has changed %v to %v", most, was, whole(l))
		}
	}
}

// P2: what is told may be written over, and what was handed in, too: neither hangs on
// the other, nor on what is told the next time.
func TestNotKept(t *testing.T) {
	for most := range crowded + 3 {
		l := crowd()
		was := whole(l)
		first, cut := rank.Best(l, most)
		second, _ := rank.Best(l, most)
		want := write(first)
		if len(first) != min(most, crowded) || cut != (most < crowded) {
			t.Fatalf("P1001: Best of %d: %s %v", most, want, cut)
		}
		spoil(first)
		if !reflect.DeepEqual(whole(l), was) {
			t.Errorf("P2: Best of %d tells what was handed in: %v", most, whole(l))
		}
		if write(second) != want {
			t.Errorf("P2: two answers of Best of %d share memory: %v", most, second)
		}
		spoil(l)
		if write(second) != want {
			t.Errorf("P2: what Best of %d told hangs on what was handed in: %v", most, second)
		}
		if got, _ := rank.Best(crowd(), most); write(got) != want {
			t.Errorf("P2: something of Best of %d was kept: %v", most, got)
		}
	}
}

// P2: no two lists of an answer share memory, where what was handed in does.
func TestNotShared(t *testing.T) {
	out, _ := rank.Best(crowd(), crowded)
	for i := range out {
		others := slices.Delete(slices.Clone(out), i, i+1)
		want := write(others)
		wide := out[i].V.F[:cap(out[i].V.F)]
		for k := range wide {
			wide[k] = 77
		}
		if write(others) != want {
			t.Errorf("P2: %d shares fields with others", i)
		}
	}
}

// P2: no list and an empty one are the same, and what stands in spare room is not
// told.
func TestNilAndEmpty(t *testing.T) {
	spare := []int{7, 7}
	for _, f := range [][]int{nil, {}, spare[:0]} {
		v := api.Value{Kind: 3, F: f}
		if rank.Cmp(v, value(3)) != 0 || rank.Cmp(value(3), v) != 0 || rank.Cmp(v, value(3, 7)) != -1 || rank.Cmp(value(3, math.MinInt), v) != 1 || rank.Code(v) != "3" {
			t.Errorf("P2: %#v is not what nothing is", f)
		}
		expect(t, list(at(2, value(3)), at(1, v), at(2, value(3, 7))), at(1, value(3)), at(2, value(3, 7)))
		expect(t, list(at(1, value(3)), at(2, v)), at(1, value(3)))
	}
}

// P3, P7: the same is answered the next time, whatever was asked meanwhile, by
// others side by side, too.
func TestSameAgain(t *testing.T) {
	same := func(seed int64) {
		by := rand.New(rand.NewSource(seed))
		l, other := anyReadings(by, 30), anyReadings(by, 30)
		for most := range 12 {
			want, code, is := best(l, most), rank.Code(l[most].V), rank.Cmp(l[0].V, l[most].V)
			best(other, most)
			rank.Cmp(other[0].V, l[most].V)
			rank.Code(other[most].V)
			if best(l, most) != want || rank.Code(l[most].V) != code || rank.Cmp(l[0].V, l[most].V) != is {
				t.Errorf("P3: %v, %d", l, most)
			}
		}
	}
	var several sync.WaitGroup
	for seed := range int64(8) {
		several.Go(func() {
			for range 20 {
				same(seed)
			}
		})
	}
	several.Wait()
}

// P1, P8, P9: a most below 0 is refused, not taken for another one.
func TestWrongMost(t *testing.T) {
	for _, most := range []int{-1, -2, -64, math.MinInt + 1, math.MinInt} {
		for _, l := range [][]api.Reading{nil, {}, crowd()[:1], crowd()} {
			if out, cut := rank.Best(l, most); len(out) > 0 || cut {
				t.Errorf("P9: Best of %v, %d: %v, %v", l, most, out, cut)
			}
		}
	}
}

// P1: whatever values and costs there are is taken as it is.
func TestWildReadings(t *testing.T) {
	var l []api.Reading
	for _, n := range extremes() {
		for _, m := range extremes() {
			l = append(l, at(n, value(m)), at(n, value(m, n)), at(m, value(n, n, m)), at(m, value(0, m, n, 0, 0, 0, 0, 0, 0)))
		}
	}
	expect(t, l, meant(l)...)
	slices.Reverse(l)
	expect(t, l, meant(l)...)
}
