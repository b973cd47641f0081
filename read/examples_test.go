package read

import (
	"testing"

	"interlocutor/act"
	"interlocutor/api"
	"interlocutor/gram"
)

// pool are values of each kind, at the bounds of what actions take and near them.
func pool() []api.Value {
	var all []api.Value
	for _, n := range []int{0, 1, 3, 7, 12, 13, 24, 31, 32, 60, 99, 100, 999, 1000, 9999, 10000, 1_000_000, 1_000_001, 1<<53 - 1, 99_999_999_999_999_999, 999_999_999_999_999_999} {
		for _, digits := range []int{1, 2, 3, 4, 18} {
			if n < tens(digits) {
				all = append(all, number(n, digits))
			}
		}
		all = append(all, word(n), word(-n), value(api.VDur, n), value(api.VDec, n, 0), value(api.VDec, -n, 0))
	}
	for scale := range 19 {
		all = append(all, value(api.VDec, 1, scale), value(api.VDec, 999_999_999_999_999_999, scale))
	}
	for _, y := range []int{1, 2024, 9999} {
		all = append(all, value(api.VDate, y, 1, 1), value(api.VDate, y, 12, 31), value(api.VMoment, y, 2, 28, 0, 0, 0), value(api.VSpan, 1, 1, 1, y, 2, 28))
	}
	return append(all, value(api.VDur, 1<<53-1), value(api.VTime, 0, 0, 0), value(api.VTime, 23, 59, 59), value(api.VMoney, 2, 5), value(api.VMark))
}

// few are those of it of which three are tried together.
func few() []api.Value {
	all := []api.Value{number(0, 3), number(99, 2), number(999, 3), number(9999, 4), number(10000, 5), number(1_000_000, 7), value(api.VDate, 1, 1, 1)}
	for _, n := range []int{0, 1, 2, 12, 29, 31, 59} {
		all = append(all, number(n, 2))
	}
	for _, n := range []int{-1_000_000, -1, 0, 1, 2, 4, 12, 1_000_000} {
		all = append(all, word(n))
	}
	return all
}

// tens is 10 to the power of n.
func tens(n int) int {
	if n == 0 {
		return 1
	}
	return 10 * tens(n-1)
}

// orders are all ways in which n places of so many parts may be asked for.
func orders(n, parts int) [][]int {
	if n == 0 {
		return [][]int{nil}
	}
	var all [][]int
	for _, ahead := range orders(n-1, parts) {
		for p := range parts {
			all = append(all, append(ahead[:len(ahead):len(ahead)], p))
		}
	}
	return all
}

// refs are moments at both ends of the years, and one between: for actions that hang
// on them.
func refs(op int) []api.Moment {
	all := []api.Moment{{Y: 2024, M: 2, D: 29}, {Y: 1, M: 1, D: 1}, {Y: 9999, M: 12, D: 31}}
	if op == api.ADate || op == api.AThis || op == api.ARel {
		return all
	}
	return all[:1]
}

// asking is a rule of so many parts, with an action of these.
func asking(op, parts int, p []int) api.Rule {
	return api.Rule{Rhs: make([]int, parts), Act: api.Act{Op: op, P: p}}
}

// P901, T1: no value is left out of which an action makes something with any others,
// each of another part, or some of one.
func TestFits(t *testing.T) {
	pools := [][]api.Value{1: pool(), 2: pool(), 3: few()}
	for op := range 16 {
		for many := 1; many <= 3; many++ {
			for places := many; places <= 3; places++ {
				for _, p := range orders(places, many) {
					r := asking(op, many, p)
					if !gram.Right(r) {
						continue
					}
					for _, ref := range refs(op) {
						f := fitter{t, newMakings([]api.Rule{r}, ref), nil}
						for _, v := range pools[many] {
							f.ids = append(f.ids, f.m.id(v))
						}
						f.try(choice{}, 0)
					}
				}
			}
		}
	}
}

// fitter tries a rule of all these values.
type fitter struct {
	t   *testing.T
	m   *makings
	ids []int
}

// try fills in the parts from that one on, of each that is asked for each value.
func (f fitter) try(c choice, part int) {
	r := f.m.rules[0]
	if part == len(r.Rhs) {
		f.check(r, c)
		return
	}
	for _, id := range f.ids {
		c.ids[part] = id
		f.try(c, part+1)
		if !f.m.asks(0, part) {
			return
		}
	}
}

func (f fitter) check(r api.Rule, c choice) {
	if f.m.do(c) == none {
		return
	}
	for part := range r.Rhs {
		if f.m.asks(0, part) && !f.m.fits(suit{0, part, c.ids[part]}) {
			f.t.Fatalf("P901: %v from %v: %v in part %d does not fit, but of %v there is something", r.Act, f.m.ref, f.m.values[c.ids[part]], part, c.ids)
		}
	}
}

// P901: what each action is of fits, and nothing else of the values that it never
// takes.
func TestFitsNot(t *testing.T) {
	ref := refs(api.ARel)[0]
	for _, x := range []struct {
		op, many, part int
		v              api.Value
		want           bool
	}{
		{api.ADate, 3, 0, number(9999, 4), true}, {api.ADate, 3, 0, number(10000, 5), false}, {api.ADate, 3, 1, word(12), true}, {api.ADate, 3, 1, word(13), false}, {api.ADate, 3, 2, number(31, 2), true}, {api.ADate, 3, 2, number(32, 2), false}, {api.ADate, 3, 2, word(3), false},
		{api.ATime, 3, 0, number(24, 2), false}, {api.ATime, 2, 1, number(59, 2), true}, {api.AHalf, 2, 0, number(13, 2), false}, {api.AHalf, 2, 1, word(2), false}, {api.AHalf, 3, 2, word(1), true}, {api.AHalf, 3, 1, number(59, 2), true},
		{api.ARel, 3, 0, number(1_000_000, 7), true}, {api.ARel, 3, 0, number(1_000_001, 7), false}, {api.ARel, 3, 1, word(5), false}, {api.ARel, 3, 2, word(0), false}, {api.ARel, 3, 2, word(-1), true},
		{api.AGroup, 6, 0, number(5, 1), true}, {api.AGroup, 6, 5, number(5, 1), false}, {api.AGroup, 6, 5, number(5, 3), true}, {api.AGroup, 6, 0, number(5, 4), false}, {api.AGroup, 6, 3, word(5), false},
		{api.AMoney, 2, 1, value(api.VDec, 1, 9), true}, {api.AMoney, 2, 1, value(api.VDec, 1, 10), false}, {api.AMoney, 2, 0, word(-1), false},
		{api.ADur, 2, 1, word(0), false}, {api.ADur, 2, 0, word(-1), false}, {api.ASum, 2, 0, value(api.VDur, 1<<53-1), true}, {api.ASpan, 2, 1, value(api.VTime, 0, 0, 0), false}, {api.APoint, 2, 0, number(999_999_999_999_999_999, 18), false}, {api.APoint, 2, 1, number(999_999_999_999_999_999, 18), true},
		{api.AMoment, 2, 0, value(api.VDate, 2024, 2, 29), true}, {api.AMoment, 2, 1, value(api.VDate, 2024, 2, 29), false}, {api.APick, 1, 0, value(api.VMark), true}, {api.ANext, 1, 0, word(7), false}, {api.AWhole, 1, 0, word(7), false}, {api.ANeg, 1, 0, value(api.VDec, 7, 0), true}, {api.ANeg, 1, 0, number(7, 1), false},
	} {
		m := newMakings([]api.Rule{asking(x.op, x.many, orders(1, x.many)[0])}, ref)
		m.rules[0].Act.P = nil
		for p := range x.many {
			m.rules[0].Act.P = append(m.rules[0].Act.P, p)
		}
		if got := m.fits(suit{0, x.part, m.id(x.v)}); got != x.want {
			t.Errorf("op %d: %v in part %d of %d: %v", x.op, x.v, x.part, x.many, got)
		}
	}
}

// P901: each example is one: its action makes something of it.
func TestExamples(t *testing.T) {
	for op := range 16 {
		for many := 1; many <= 6; many++ {
			r := asking(op, many, nil)
			for p := range many {
				r.Act.P = append(r.Act.P, p)
			}
			if many == 1 || !gram.Right(r) {
				continue
			}
			for _, list := range examples(op, many) {
				any := false
				for _, ref := range refs(op) {
					_, is := act.Do(r.Act, list, ref)
					any = any || is
				}
				if len(list) != many || !any {
					t.Errorf("op %d of %d: %v", op, many, list)
				}
			}
		}
	}
}
