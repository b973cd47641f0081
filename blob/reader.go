package blob

import "interlocutor/api"

// numberBytes is how many bytes a number has.
const numberBytes = 8

// refusal is what a reader panics with, where its bytes are no languages: so each
// of its calls may take it that all went well ahead of it.
type refusal struct{}

// reader holds the bytes that are left.
type reader struct{ left []byte }

// parse reads languages, whatever their numbers and texts are; false, if the
// bytes end too soon or go on, or if there are more of something than may be.
func parse(b []byte) (l []api.Locale, is bool) {
	defer func() {
		if recover() != nil {
			l, is = nil, false
		}
	}()
	r := &reader{b}
	l = get(r, mostLocales, r.locale)
	return l, len(r.left) == 0
}

// get reads a list: how many, and each by item.
func get[T any](r *reader, most int, item func() T) []T {
	list := make([]T, r.count(most))
	for i := range list {
		list[i] = item()
	}
	return list
}

// count reads how many there are. More than may be are refused here, ahead of any
// room that is made for them.
func (r *reader) count(most int) int {
	n := r.number()
	if !within(n, 0, most) {
		panic(refusal{})
	}
	return n
}

// take cuts off the next n bytes.
func (r *reader) take(n int) []byte {
	if n > len(r.left) {
		panic(refusal{})
	}
	next := r.left[:n]
	r.left = r.left[n:]
	return next
}

func (r *reader) number() int {
	n := uint64(0)
	for _, b := range r.take(numberBytes) {
		n = n<<8 | uint64(b)
	}
	return int(n)
}

func (r *reader) text(most int) string { return string(r.take(r.count(most))) }

func (r *reader) locale() api.Locale {
	return api.Locale{
		Id:     r.text(mostId),
		Parent: r.number(),
		Digits: r.number(),
		Lex:    get(r, mostLex, r.entry),
		Rules:  get(r, api.MaxRules, r.rule),
		Styles: get(r, mostStyles, r.style),
	}
}

func (r *reader) entry() api.Entry {
	return api.Entry{Text: r.text(mostText), Class: r.number(), Value: r.number()}
}

func (r *reader) rule() api.Rule {
	return api.Rule{
		Lhs:  r.number(),
		Rhs:  get(r, api.MaxRhs, r.number),
		Act:  api.Act{Op: r.number(), P: get(r, api.MaxRhs, r.number)},
		Cost: r.number(),
	}
}

func (r *reader) style() api.Style {
	return api.Style{Kind: r.number(), Parts: get(r, mostParts, r.part)}
}

func (r *reader) part() api.Part {
	return api.Part{
		Kind:  r.number(),
		Text:  r.text(mostText),
		Field: r.number(),
		Width: r.number(),
		Class: r.number(),
	}
}
