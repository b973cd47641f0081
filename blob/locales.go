package blob

import (
	"slices"

	"interlocutor/api"
	"interlocutor/gram"
)

// locales are languages, each of which may be like one ahead of it.
type locales []api.Locale

// isRight tells whether the locale at that place is one, if all ahead of it are.
func (l locales) isRight(at int) bool {
	x := l[at]
	return isId(x.Id) && !l.isTaken(at) &&
		within(x.Parent, -1, at-1) && within(x.Digits, 0, mostDigits) &&
		len(x.Lex) <= mostLex && all(x.Lex, isEntry) &&
		len(x.Styles) <= mostStyles && all(x.Styles, isStyle) &&
		gram.Check(l.rules(at))
}

// isTaken tells whether one ahead has the same Id.
func (l locales) isTaken(at int) bool {
	return slices.ContainsFunc(l[:at], func(x api.Locale) bool { return x.Id == l[at].Id })
}

// chain tells where a locale's Parents are, the farthest first, and itself. It
// ends, as each Parent is ahead of what is like it.
func (l locales) chain(at int) []int {
	var places []int
	for ; at >= 0; at = l[at].Parent {
		places = append(places, at)
	}
	slices.Reverse(places)
	return places
}

// rules tells a locale's rules, behind all its Parents'.
func (l locales) rules(at int) []api.Rule {
	var rules []api.Rule
	for _, place := range l.chain(at) {
		rules = append(rules, l[place].Rules...)
	}
	return rules
}

// resolve makes a locale with what it has of its Parents; no list of it is one of
// l's.
func (l locales) resolve(at int) api.Locale {
	whole := api.Locale{Id: l[at].Id, Parent: l[at].Parent, Digits: l[at].Digits}
	for _, place := range l.chain(at) {
		whole.Lex = append(whole.Lex, l[place].Lex...)
		for _, s := range l[place].Styles {
			whole.Styles = append(whole.Styles, copyStyle(s))
		}
	}
	for _, r := range l.rules(at) {
		whole.Rules = append(whole.Rules, copyRule(r))
	}
	return whole
}

func copyRule(r api.Rule) api.Rule {
	r.Rhs, r.Act.P = slices.Clone(r.Rhs), slices.Clone(r.Act.P)
	return r
}

func copyStyle(s api.Style) api.Style {
	s.Parts = slices.Clone(s.Parts)
	return s
}
