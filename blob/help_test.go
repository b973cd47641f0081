package blob_test

import (
	"bytes"
	"encoding/binary"
	"math"
	"reflect"
	"slices"
	"testing"

	"interlocutor/api"
	"interlocutor/blob"
)

// pick is a rule that picks its first.
func pick(lhs int, rhs ...int) api.Rule {
	return api.Rule{Lhs: lhs, Rhs: rhs, Act: api.Act{Op: api.APick, P: []int{0}}}
}

// text, field and word are parts.
func text(s string) api.Part { return api.Part{Kind: api.PText, Text: s} }

func field(n, width int) api.Part { return api.Part{Kind: api.PNumber, Field: n, Width: width} }

func word(n, class int) api.Part { return api.Part{Kind: api.PWord, Field: n, Class: class} }

// alone is one language with what the change makes of it.
func alone(change func(x *api.Locale)) []api.Locale {
	l := []api.Locale{{Id: "a", Parent: -1}}
	change(&l[0])
	return l
}

// family holds languages of each kind: two without a Parent, one with one, two
// with the same, one with a Parent that has one.
func family() []api.Locale {
	date := api.Rule{Lhs: 1, Rhs: []int{-1, -51, -1, -51, -1}, Act: api.Act{Op: api.ADate, P: []int{4, 2, 0}}, Cost: 100}
	return []api.Locale{
		{Id: "en", Parent: -1, Lex: []api.Entry{{Text: "jan", Class: 1, Value: 1}, {Text: "from now", Class: 49, Value: -1000000000}},
			Rules: []api.Rule{pick(0, 1), date}, Styles: []api.Style{{Kind: api.VDate, Parts: []api.Part{field(0, 4), text("-"), word(1, 1), text("")}}}},
		{Id: "0-9", Parent: -1, Digits: 3, Rules: []api.Rule{pick(0, -61), pick(5, 0, 19)}},
		{Id: "en-gb", Parent: 0, Digits: 1, Lex: []api.Entry{{Text: "fortnight", Class: 2, Value: 1000000000}},
			Styles: []api.Style{{Kind: api.VSpan, Parts: []api.Part{text("\xff\x00 Z")}}, {Kind: api.VDec, Parts: []api.Part{field(5, 9), word(5, 49)}}}},
		{Id: "fr-be", Parent: 1, Digits: 2},
		{Id: "en-gb-sct", Parent: 2, Lex: []api.Entry{{Text: "à 9", Class: 3}}, Rules: []api.Rule{pick(1, -1)},
			Styles: []api.Style{{Kind: api.VDate, Parts: []api.Part{text("the only one")}}}},
		{Id: "twelve-bytes", Parent: 0, Rules: []api.Rule{pick(1, 7), pick(7, -50, 0)}},
	}
}

// far holds numbers that are out of all bounds, those too whose lowest bits are
// within them.
func far() []int {
	return []int{math.MinInt, math.MinInt + 1, -1 << 62, -1 << 32, -1<<32 - 1, -1 << 31, 1 << 31, 1 << 32, 1<<32 + 1, 1 << 40, 1 << 56, 1<<56 + 1, math.MaxInt - 1, math.MaxInt}
}

// scribe writes P502's bytes by the order of api's fields, and notes where each
// number begins.
type scribe struct {
	bytes   []byte
	numbers []int
}

func (s *scribe) number(n int) {
	s.numbers = append(s.numbers, len(s.bytes))
	s.bytes = binary.BigEndian.AppendUint64(s.bytes, uint64(n))
}

func (s *scribe) value(v reflect.Value) {
	switch v.Kind() {
	case reflect.Int:
		s.number(int(v.Int()))
	case reflect.String:
		s.number(v.Len())
		s.bytes = append(s.bytes, v.String()...)
	case reflect.Slice:
		s.number(v.Len())
		for i := range v.Len() {
			s.value(v.Index(i))
		}
	case reflect.Struct:
		for i := range v.NumField() {
			s.value(v.Field(i))
		}
	}
}

// written is the bytes of anything, whether it is Right or not.
func written(x any) []byte {
	s := &scribe{}
	s.value(reflect.ValueOf(x))
	return s.bytes
}

// same tells whether two are the same; no list and an empty one are.
func same(a, b any) bool { return bytes.Equal(written(a), written(b)) }

// cut takes n bytes off b; false, if there are not so many.
func cut(b *[]byte, n int) ([]byte, bool) {
	if n < 0 || n > len(*b) {
		return nil, false
	}
	head := (*b)[:n]
	*b = (*b)[n:]
	return head, true
}

// learn reads into v what a scribe wrote.
func learn(b *[]byte, v reflect.Value) bool {
	if v.Kind() == reflect.Struct {
		for i := range v.NumField() {
			if !learn(b, v.Field(i)) {
				return false
			}
		}
		return true
	}
	head, is := cut(b, 8)
	if !is {
		return false
	}
	n := int(int64(binary.BigEndian.Uint64(head)))
	switch v.Kind() {
	case reflect.Int:
		v.SetInt(int64(n))
	case reflect.String:
		s, is := cut(b, n)
		v.SetString(string(s))
		return is
	case reflect.Slice:
		if n < 0 || n > len(*b)/8 { // each of a list has a number at least
			return false
		}
		v.Set(reflect.MakeSlice(v.Type(), n, n))
		for i := range n {
			if !learn(b, v.Index(i)) {
				return false
			}
		}
	}
	return true
}

// meant is Decode by P502's words.
func meant(b []byte) ([]api.Locale, bool) {
	var l []api.Locale
	if !learn(&b, reflect.ValueOf(&l).Elem()) || len(b) > 0 || !blob.Right(l) {
		return nil, false
	}
	return l, true
}

// refuses asks Decode to say no, with nothing beside it.
func refuses(t *testing.T, b []byte) {
	t.Helper()
	if l, is := blob.Decode(b); is || len(l) > 0 {
		t.Errorf("P502: Decode(%q) is %v, %v", b, l, is)
	}
}

// decodes holds Decode against the words, and tells whether it took the bytes.
func decodes(t *testing.T, b []byte) bool {
	t.Helper()
	want, right := meant(b)
	got, is := blob.Decode(b)
	if is != right || !same(got, want) {
		t.Errorf("P502: Decode(%q) is %v, %v, not %v, %v", b, got, is, want, right)
	}
	return is
}

// right holds Right of l against want; of what is Right, Encode and Decode go there
// and back; of what is not, all else says that there is nothing.
func right(t *testing.T, l []api.Locale, want bool) {
	t.Helper()
	if got := blob.Right(l); got != want {
		t.Errorf("P501: Right(%v) is %v", l, got)
		return
	}
	if !want {
		refuses(t, written(l))
		nothing(t, l)
		return
	}
	b := blob.Encode(l)
	if !bytes.Equal(b, written(l)) {
		t.Errorf("P502: Encode(%v) is %q", l, b)
	}
	if back, is := blob.Decode(b); !is || !same(back, l) {
		t.Errorf("P503: %v is read as %v, %v", l, back, is)
	}
}

// nothing asks Encode and Resolve for nothing.
func nothing(t *testing.T, l []api.Locale) {
	t.Helper()
	if b := blob.Encode(l); len(b) > 0 {
		t.Errorf("P8: Encode(%v) is %q", l, b)
	}
	for _, x := range l {
		if r, is := blob.Resolve(l, x.Id); is || !same(r, api.Locale{}) {
			t.Errorf("P8: Resolve(%v, %q) is %v, %v", l, x.Id, r, is)
		}
	}
}

// resolved is Resolve by P502's words.
func resolved(l []api.Locale, at int) api.Locale {
	x := l[at]
	if x.Parent >= 0 {
		p := resolved(l, x.Parent)
		x.Lex, x.Rules, x.Styles = slices.Concat(p.Lex, x.Lex), slices.Concat(p.Rules, x.Rules), slices.Concat(p.Styles, x.Styles)
	}
	return x
}
