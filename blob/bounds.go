package blob

import (
	"interlocutor/api"
	"interlocutor/fold"
)

// How many there may be, at most, and the bounds of numbers.
const (
	mostLocales = 10
	mostId      = 12 // bytes
	mostLex     = 30
	mostStyles  = 20
	mostParts   = 12
	mostText    = 20 // bytes
	mostField   = 5
	mostWidth   = 9
	mostDigits  = 3
	mostValue   = 1_000_000_000
	firstWord   = api.CNumber + 1
	lastWord    = api.CMark - 1
)

const blank = ' '

func isId(id string) bool {
	return within(len(id), 1, mostId) && all([]byte(id), isIdSign)
}

func isIdSign(b byte) bool {
	return within(b, 'a', 'z') || within(b, '0', '9') || b == '-'
}

func isEntry(e api.Entry) bool {
	return isWord(e.Text) && isClass(e.Class) && within(e.Value, -mostValue, mostValue)
}

// isWord tells whether a text may stand in a folded one, from a sign on that is no
// blank to one that is none.
func isWord(s string) bool {
	return within(len(s), 1, mostText) && fold.Text(s) == s && s[0] != blank && s[len(s)-1] != blank
}

func isClass(n int) bool { return within(n, firstWord, lastWord) }

func isField(n int) bool { return within(n, 0, mostField) }

func isStyle(s api.Style) bool {
	return within(s.Kind, api.VDate, api.VSpan) && within(len(s.Parts), 1, mostParts) && all(s.Parts, isPart)
}

// isPart holds a part also against one that has nothing but what its kind asks for.
func isPart(p api.Part) bool {
	switch p.Kind {
	case api.PText:
		return len(p.Text) <= mostText && p == api.Part{Kind: p.Kind, Text: p.Text}
	case api.PNumber:
		return isField(p.Field) && within(p.Width, 0, mostWidth) && p == api.Part{Kind: p.Kind, Field: p.Field, Width: p.Width}
	case api.PWord:
		return isField(p.Field) && isClass(p.Class) && p == api.Part{Kind: p.Kind, Field: p.Field, Class: p.Class}
	}
	return false
}

func within[N int | byte](n, low, high N) bool { return low <= n && n <= high }

func all[T any](list []T, holds func(T) bool) bool {
	for _, x := range list {
		if !holds(x) {
			return false
		}
	}
	return true
}
