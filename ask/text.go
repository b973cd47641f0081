package ask

import (
	"interlocutor/api"
	"interlocutor/fold"
	"interlocutor/rank"
	"interlocutor/read"
	"interlocutor/render"
)

const blank = 0x20

// text is one that is asked: its signs, where each of them begins, and where it ends.
type text struct{ runes, offsets []int }

func textOf(s string) text {
	runes, offsets := fold.Fold(s)
	return text{runes, offsets}
}

// bounds tells where the first sign that is no blank begins, and where the last one
// ends.
func (t text) bounds() (from, to int) {
	first, behind := 0, len(t.runes)
	for first < behind && t.runes[first] == blank {
		first++
	}
	for first < behind && t.runes[behind-1] == blank {
		behind--
	}
	return t.offsets[first], t.offsets[behind]
}

// answerOf tells all that is told of a text.
func answerOf(l api.Locale, ref api.Moment, s string) Answer {
	t := textOf(s)
	all, e := read.Readings(l, t.runes, ref)
	unless(e == api.OK, e)
	best, cut := rank.Best(all, api.MaxCap)
	if len(best) == 0 {
		return Answer{}
	}
	a := Answer{L: best, Cut: cut}
	for _, r := range best {
		a.Texts = append(a.Texts, written(l, r.V))
	}
	a.From, a.To = t.bounds()
	return a
}

// written tells a value in each style of its kind. What is refused is told as no text,
// not left out: the place of a text in the list tells which style it is in.
func written(l api.Locale, v api.Value) []string {
	var texts []string
	for _, style := range render.Styles(l, v.Kind) {
		s, _ := render.Write(l, style, v)
		texts = append(texts, s)
	}
	return texts
}
