package read

import (
	"slices"

	"interlocutor/act"
	"interlocutor/api"
	"interlocutor/rank"
)

// none is the number of what is no value.
const none = -1

// choice is a rule by its place, and the number of a value for each of its parts: 0
// where the part is not there yet, or its action does not ask for it. So choices of
// which the same comes are one.
type choice struct {
	rule int
	ids  [api.MaxRhs]int
}

// suit is a value, by its number, in a part of a rule.
type suit struct{ rule, part, id int }

// makings is what rules make. Each value, of signs too, has a number: its place in
// values.
type makings struct {
	rules  []api.Rule
	ref    api.Moment
	values []api.Value
	ids    map[string]int
	made   map[choice]int
	fit    map[suit]int
}

func newMakings(rules []api.Rule, ref api.Moment) *makings {
	return &makings{rules: rules, ref: ref, ids: map[string]int{}, made: map[choice]int{}, fit: map[suit]int{}}
}

// id tells a value's number.
func (m *makings) id(v api.Value) int {
	code := rank.Code(v)
	id, is := m.ids[code]
	if !is {
		id = len(m.values)
		m.ids[code] = id
		m.values = append(m.values, v)
	}
	return id
}

// result tells the number of what a rule makes of all its parts.
func (m *makings) result(c choice) int {
	id, is := m.made[c]
	if !is {
		id = m.do(c)
		m.made[c] = id
	}
	return id
}

func (m *makings) do(c choice) int {
	r := m.rules[c.rule]
	list := make([]api.Value, len(r.Rhs))
	for part := range list {
		list[part] = m.values[c.ids[part]]
	}
	v, is := act.Do(r.Act, list, m.ref)
	if !is {
		return none
	}
	return m.id(v)
}

// asks tells whether a rule's action hangs on that part's value.
func (m *makings) asks(rule, part int) bool { return slices.Contains(m.rules[rule].Act.P, part) }

// fits tells whether a rule may make something of that value in that part, which it
// asks for, whatever its others are. What does not fit is left out ahead of being
// joined with others: parts of many values each would be joined in too many ways,
// all for nothing.
func (m *makings) fits(s suit) bool {
	known, is := m.fit[s]
	if !is {
		known = none
		if m.tries(s) {
			known = s.id
		}
		m.fit[s] = known
	}
	return known == s.id
}

// tries puts the value in the stead of a part of examples.
func (m *makings) tries(s suit) bool {
	a := m.rules[s.rule].Act
	return slices.ContainsFunc(examples(a.Op, len(a.P)), func(list []api.Value) bool {
		each := make([]int, len(list))
		for at, part := range a.P {
			each[at] = at
			if part == s.part {
				list[at] = m.values[s.id]
			}
		}
		_, is := act.Do(api.Act{Op: a.Op, P: each}, list, m.ref)
		return is
	})
}
