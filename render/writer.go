package render

import (
	"slices"

	"interlocutor/api"
	"interlocutor/fold"
)

// mostBytes is how long a text may be that is asked: what is written may be read so.
const mostBytes = api.MaxInput

// writer writes the parts of a style, one behind the other.
type writer struct {
	words  []api.Entry
	digits int
	fields []field
	text   []byte
}

// part writes a part, or says that there is no such one.
func (w *writer) part(p api.Part) bool {
	if p.Kind == api.PText {
		w.put(p.Text)
		return true
	}
	if !within(p.Field, 0, len(w.fields)-1) {
		return false
	}
	f := w.fields[p.Field]
	switch p.Kind {
	case api.PNumber:
		return w.number(f.written(p.Width))
	case api.PWord:
		return w.word(p.Class, f.number())
	}
	return false
}

// put writes a text behind what is written. One byte too many is kept and no more:
// that tells that it is too long.
func (w *writer) put(text string) {
	room := mostBytes + 1 - len(w.text)
	w.text = append(w.text, text[:min(len(text), room)]...)
}

func (w *writer) isTooLong() bool { return len(w.text) > mostBytes }

// number writes a number in the digits of the language.
func (w *writer) number(text string) bool {
	for _, sign := range text {
		if string(sign) == minus {
			w.put(minus)
			continue
		}
		digit := fold.Digit(w.digits, int(sign-'0'))
		if digit == "" {
			return false
		}
		w.put(digit)
	}
	return true
}

// word writes the first word of a class that means a number.
func (w *writer) word(class, number int) bool {
	at := slices.IndexFunc(w.words, func(e api.Entry) bool {
		return e.Class == class && e.Value == number
	})
	if at < 0 {
		return false
	}
	w.put(w.words[at].Text)
	return true
}

func within(n, low, high int) bool { return low <= n && n <= high }
