package blob

import "interlocutor/api"

// writer holds the bytes that are written.
type writer struct{ bytes []byte }

// put writes a list: how many, and each by item.
func put[T any](w *writer, list []T, item func(T)) {
	w.number(len(list))
	for _, x := range list {
		item(x)
	}
}

func (w *writer) number(n int) {
	for shift := 8 * (numberBytes - 1); shift >= 0; shift -= 8 {
		w.bytes = append(w.bytes, byte(n>>shift))
	}
}

func (w *writer) numbers(list ...int) {
	for _, n := range list {
		w.number(n)
	}
}

func (w *writer) text(s string) {
	w.number(len(s))
	w.bytes = append(w.bytes, s...)
}

func (w *writer) locale(l api.Locale) {
	w.text(l.Id)
	w.numbers(l.Parent, l.Digits)
	put(w, l.Lex, w.entry)
	put(w, l.Rules, w.rule)
	put(w, l.Styles, w.style)
}

func (w *writer) entry(e api.Entry) {
	w.text(e.Text)
	w.numbers(e.Class, e.Value)
}

func (w *writer) rule(r api.Rule) {
	w.number(r.Lhs)
	put(w, r.Rhs, w.number)
	w.number(r.Act.Op)
	put(w, r.Act.P, w.number)
	w.number(r.Cost)
}

func (w *writer) style(s api.Style) {
	w.number(s.Kind)
	put(w, s.Parts, w.part)
}

func (w *writer) part(p api.Part) {
	w.number(p.Kind)
	w.text(p.Text)
	w.numbers(p.Field, p.Width, p.Class)
}
