package rank_test

import (
	"fmt"
	"math"
	"math/rand"
	"slices"
	"testing"

	"interlocutor/api"
	"interlocutor/rank"
)

// P1001: no readings, nil or empty (P2), and the example.
func TestBestOfNone(t *testing.T) {
	expect(t, nil)
	expect(t, []api.Reading{})
	expect(t, list(at(0, value(4)), at(1, value(4)))[:0])
}

// P1001: by cost, whatever the values are.
func TestBestByCost(t *testing.T) {
	one := at(7, value(4, 2024, 2, 29))
	expect(t, list(one), one)
	a, b, c := at(0, value(10, 9)), at(1, value(7, 5, 0)), at(2, value(4, 2024, 2, 29))
	for _, l := range [][]api.Reading{{a, b, c}, {a, c, b}, {b, a, c}, {b, c, a}, {c, a, b}, {c, b, a}} {
		expect(t, l, a, b, c)
	}
	var rising []api.Reading
	for _, cost := range extremes() {
		rising = append(rising, at(cost, value(4, -len(rising))))
	}
	falling := slices.Clone(rising)
	slices.Reverse(falling)
	expect(t, rising, rising...)
	expect(t, falling, rising...)
}

// P1001: of equal cost, by Cmp: by kind, by how many F, by the first that differs.
func TestBestByCmp(t *testing.T) {
	var kinds, many, first, last []api.Reading
	for i, n := range extremes() {
		kinds = append(kinds, at(3, value(n, -i, 7)))
		many = append(many, at(3, value(4, slices.Repeat([]int{-i}, i)...)))
		first = append(first, at(3, value(4, 0, n, -i, -i)))
		last = append(last, at(3, value(4, 0, 0, n)))
	}
	var all []api.Reading
	for _, v := range rising() {
		all = append(all, at(3, v))
	}
	for _, want := range [][]api.Reading{kinds, many, first, last, all} {
		l := slices.Clone(want)
		expect(t, l, want...)
		slices.Reverse(l)
		expect(t, l, want...)
		expect(t, append(l, want...), want...)
	}
}

// P1001, P1002: of each value the least cost, wherever that stands.
func TestBestOfEach(t *testing.T) {
	v, other := value(5, 9, 30, 0), at(4, value(4, 2024, 2, 29))
	for _, costs := range [][]int{{1, 5, 9}, {5, 1, 9}, {9, 5, 1}, {1, 1, 5}, {1, 5, 1}, {5, 1, 1}, {1, 1, 1}, {9, 5, 1, 5, 9}, {1, 9, 9, 9}, {9, 9, 9, 1}} {
		var l, mixed []api.Reading
		for _, cost := range costs {
			l = append(l, at(cost, v))
			mixed = append(mixed, at(cost, v), other)
		}
		expect(t, l, at(1, v))
		expect(t, mixed, at(1, v), other)
		expect(t, append(mixed, at(-2, other.V)), at(-2, other.V), at(1, v))
		expect(t, append(mixed, at(1, other.V)), at(1, other.V), at(1, v))
		expect(t, append(mixed, at(2, other.V)), at(1, v), at(2, other.V))
	}
	none := list(at(5, value(3)), at(4, api.Value{Kind: 3, F: []int{}}), at(6, value(3)), at(4, value(3)))
	expect(t, none, none[1])
	for _, less := range extremes() {
		for _, more := range extremes() {
			expect(t, list(at(more, v), at(less, v)), at(min(less, more), v))
		}
	}
}

// P1001: cut just where there are more values than most, not more readings.
func TestBestCut(t *testing.T) {
	v, w := value(4, 2024, 1, 1), value(4, 2024, 1, 2)
	l := list(at(2, w), at(1, v), at(0, w), at(9, v), at(9, w))
	for most, want := range map[int]string{0: "true", 1: "4[2024 1 2]:0 true", 2: "4[2024 1 2]:0 4[2024 1 1]:1 false", 3: "4[2024 1 2]:0 4[2024 1 1]:1 false", 5: "4[2024 1 2]:0 4[2024 1 1]:1 false", math.MaxInt: "4[2024 1 2]:0 4[2024 1 1]:1 false"} {
		if got := best(l, most); got != want {
			t.Errorf("P1001: Best of %v, %d: %s, not %s", l, most, got, want)
		}
	}
	for most, want := range map[int]string{0: "true", 1: "4[2024 1 1]:3 false", 2: "4[2024 1 1]:3 false"} {
		if got := best(list(at(3, v), at(3, v), at(3, v)), most); got != want {
			t.Errorf("P1001: Best of one value, %d: %s, not %s", most, got, want)
		}
	}
}

// P1001, P1002: each list of up to four of some readings.
func TestBestOfAllLists(t *testing.T) {
	var some []api.Reading
	for _, v := range []api.Value{value(4), value(4, 0), value(5)} {
		some = append(some, at(0, v), at(1, v), at(2, v))
	}
	var from func(l []api.Reading)
	from = func(l []api.Reading) {
		expect(t, l, meant(l)...)
		for _, r := range some {
			if len(l) < 4 && !t.Failed() {
				from(append(slices.Clone(l), r))
			}
		}
	}
	from(nil)
}

// anyReadings are some by chance, many of them of one value.
func anyReadings(by *rand.Rand, many int) []api.Reading {
	var l []api.Reading
	costs, fields := 1+by.Intn(5), 1+by.Intn(3)
	for range many {
		v := value(by.Intn(3) - 1)
		for range by.Intn(fields + 1) {
			v.F = append(v.F, by.Intn(3)-1)
		}
		l = append(l, at(by.Intn(costs)-1, v))
	}
	return l
}

// P1001, P1002, T3: readings by chance, in another order, and the best of the best.
func TestBestOfAny(t *testing.T) {
	by := rand.New(rand.NewSource(1001))
	for range 3000 {
		l := anyReadings(by, by.Intn(60))
		want := meant(l)
		expect(t, l, want...)
		most, fewer := by.Intn(len(want)+2), by.Intn(len(want)+2)
		told := best(l, most)
		by.Shuffle(len(l), func(i, j int) { l[i], l[j] = l[j], l[i] })
		if got := best(l, most); got != told {
			t.Errorf("T3: Best of %v, %d in another order: %s, not %s", l, most, got, told)
		}
		first, _ := rank.Best(l, most)
		if got := best(first, fewer); got != cutTo(fewer, first...) {
			t.Errorf("T3: Best of %v, %d: %s", first, fewer, got)
		}
		half := by.Intn(len(l) + 1)
		left, _ := rank.Best(l[:half], most)
		right, _ := rank.Best(l[half:], most)
		if both, _ := rank.Best(append(left, right...), most); write(both) != write(first) {
			t.Errorf("T3: Best of the best of %v and %v, %d: %v, not %v", l[:half], l[half:], most, both, first)
		}
		if t.Failed() {
			return
		}
	}
}

// P1002: no value is told twice: by Cmp, and by Code.
func TestBestNoneTwice(t *testing.T) {
	by := rand.New(rand.NewSource(1002))
	for range 500 {
		out, _ := rank.Best(anyReadings(by, 40), 30)
		for i, r := range out {
			for _, s := range out[:i] {
				if rank.Cmp(r.V, s.V) == 0 || rank.Code(r.V) == rank.Code(s.V) {
					t.Fatalf("P1002: %v is there twice: %v", r.V, out)
				}
			}
		}
	}
}

// P1: many readings, in whatever order, and long values end soon.
func TestBestOfMany(t *testing.T) {
	const many = 200_000
	shapes := map[string]func(i int) api.Reading{
		"rising":    func(i int) api.Reading { return at(i, value(4, i)) },
		"falling":   func(i int) api.Reading { return at(-i, value(4, i)) },
		"one value": func(i int) api.Reading { return at(i%7, value(4, 1)) },
		"one cost":  func(i int) api.Reading { return at(7, value(4, i*7919%many)) },
		"pipe":      func(i int) api.Reading { return at(min(i, many-i), value(4, i%1000)) },
	}
	for name, shape := range shapes {
		var l []api.Reading
		values := map[int]int{}
		for i := range many {
			l = append(l, shape(i))
			values[l[i].V.F[0]]++
		}
		out, cut := rank.Best(l, 64)
		all, none := rank.Best(l, len(values))
		if len(out) != min(64, len(values)) || cut != (len(values) > 64) || len(all) != len(values) || none || write(all[:len(out)]) != write(out) {
			t.Errorf("P1001: %s: %d, %v; %d, %v", name, len(out), cut, len(all), none)
		}
		if !slices.IsSortedFunc(all, func(a, b api.Reading) int {
			if isAhead(a, b) {
				return -1
			}
			return 1
		}) {
			t.Errorf("P1001: %s: not in order", name)
		}
	}
	long := slices.Repeat([]int{-5}, 100_000)
	longer := append(slices.Clone(long), 0)
	other := append(slices.Clone(long[1:]), -6)
	out, cut := rank.Best(list(at(1, value(9, longer...)), at(1, value(9, long...)), at(1, value(9, other...)), at(2, value(9, long...))), 9)
	if got := fmt.Sprint(len(out), cut); got != "3 false" || !slices.Equal(out[0].V.F, other) || !slices.Equal(out[1].V.F, long) || !slices.Equal(out[2].V.F, longer) {
		t.Errorf("P1001: of long values %s", got)
	}
}
