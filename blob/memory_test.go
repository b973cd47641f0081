package blob_test

import (
	"bytes"
	"reflect"
	"slices"
	"testing"

	"interlocutor/api"
	"interlocutor/blob"
)

// fill makes something of anything, for spare room.
func fill(v reflect.Value) {
	switch v.Kind() {
	case reflect.Int:
		v.SetInt(77)
	case reflect.Uint8:
		v.SetUint(77)
	case reflect.String:
		v.SetString("spare")
	case reflect.Slice:
		v.Set(reflect.MakeSlice(v.Type(), 1, 1))
		fill(v.Index(0))
	case reflect.Struct:
		for i := range v.NumField() {
			fill(v.Field(i))
		}
	}
}

// copied is a deep copy of v in which each list has so much more room, filled;
// all says whether it is of what v's spare room has, too.
func copied(v reflect.Value, more int, all bool) reflect.Value {
	c := reflect.New(v.Type()).Elem()
	switch v.Kind() {
	case reflect.Slice:
		if all {
			v = v.Slice(0, v.Cap())
		}
		c.Set(reflect.MakeSlice(v.Type(), v.Len()+more, v.Len()+more))
		for i := range c.Len() {
			if i < v.Len() {
				c.Index(i).Set(copied(v.Index(i), more, all))
			} else {
				fill(c.Index(i))
			}
		}
		return c.Slice(0, v.Len())
	case reflect.Struct:
		for i := range v.NumField() {
			c.Field(i).Set(copied(v.Field(i), more, all))
		}
	default:
		c.Set(v)
	}
	return c
}

// roomy is x, each list with spare room of its own.
func roomy[T any](x T) T { return copied(reflect.ValueOf(x), 3, false).Interface().(T) }

// whole is all that x has, in its spare room too.
func whole[T any](x T) T { return copied(reflect.ValueOf(x), 0, true).Interface().(T) }

// area is the memory of a list and its spare room.
type area struct{ from, to uintptr }

// areas are those of all lists of v.
func areas(v reflect.Value) []area {
	var list []area
	switch v.Kind() {
	case reflect.Slice:
		if v.Cap() > 0 {
			list = append(list, area{v.Pointer(), v.Pointer() + uintptr(v.Cap())*v.Type().Elem().Size()})
		}
		for i := range v.Len() {
			list = append(list, areas(v.Index(i))...)
		}
	case reflect.Struct:
		for i := range v.NumField() {
			list = append(list, areas(v.Field(i))...)
		}
	}
	return list
}

// shares tells whether lists of all these share memory.
func shares(all ...any) bool {
	var list []area
	for _, x := range all {
		list = append(list, areas(reflect.ValueOf(x))...)
	}
	slices.SortFunc(list, func(a, b area) int {
		if a.from < b.from {
			return -1
		}
		return 1
	})
	for i := 1; i < len(list); i++ {
		if list[i].from < list[i-1].to {
			return true
		}
	}
	return false
}

// P2: what is handed in, its spare room too, is not changed.
func TestNotChanged(t *testing.T) {
	wrong := family()
	wrong[5].Digits = 9
	for _, l := range [][]api.Locale{family(), small(), wrong} {
		l = roomy(l)
		before := whole(l)
		blob.Right(l)
		blob.Encode(l)
		for _, x := range l {
			blob.Resolve(l, x.Id)
		}
		blob.Resolve(l, "none")
		if !reflect.DeepEqual(whole(l), before) {
			t.Errorf("P2: %v has become %v", before, whole(l))
		}
		for _, b := range [][]byte{written(l), written(l)[1:], written(l)[8:], append(written(l), 1)} {
			b = roomy(b)
			before := whole(b)
			blob.Decode(b)
			if !bytes.Equal(whole(b), before) {
				t.Errorf("P2: %q has become %q", before, whole(b))
			}
		}
	}
}

// P2: an answer is new memory, and no two lists of it share any, even where those
// handed in do.
func TestNewMemory(t *testing.T) {
	l := family()
	l[0].Rules[1] = l[0].Rules[0]
	l[2].Styles[1] = l[2].Styles[0]
	l[4].Lex, l[4].Rules = l[0].Lex, l[0].Rules
	l[5].Lex, l[5].Rules, l[5].Styles = l[0].Lex, l[0].Rules, l[0].Styles
	right(t, l, true)
	b := blob.Encode(l)
	first, _ := blob.Decode(b)
	second, _ := blob.Decode(b)
	if shares(b, blob.Encode(l), first, second) {
		t.Error("P2: lists of Encode and Decode share memory")
	}
	for _, x := range l {
		first, _ := blob.Resolve(l, x.Id)
		second, _ := blob.Resolve(l, x.Id)
		if shares(first, second) {
			t.Errorf("P2: lists of Resolve of %q share memory", x.Id)
		}
		for _, a := range areas(reflect.ValueOf(first)) {
			for _, b := range areas(reflect.ValueOf(l)) {
				if a.from < b.to && b.from < a.to {
					t.Errorf("P2: Resolve of %q shares memory with what was handed in", x.Id)
				}
			}
		}
	}
}

// spoil overwrites all lists of x.
func spoil(x any) {
	v := reflect.ValueOf(x)
	switch v.Kind() {
	case reflect.Slice:
		v = v.Slice(0, v.Cap())
		for i := range v.Len() {
			spoil(v.Index(i).Interface())
			fill(v.Index(i))
		}
	case reflect.Struct:
		for i := range v.NumField() {
			spoil(v.Field(i).Interface())
		}
	}
}

// P2: nothing is kept: an answer stays, whatever becomes of what was handed in, and
// what was handed in, whatever becomes of the answer.
func TestNotKept(t *testing.T) {
	l := roomy(family())
	b := blob.Encode(l)
	r, _ := blob.Resolve(l, "en-gb-sct")
	spoil(l)
	if !bytes.Equal(b, written(family())) || !same(r, resolved(family(), 4)) {
		t.Errorf("P2: the answers have become %q, %v", b, r)
	}
	back, _ := blob.Decode(b)
	spoil(b)
	if !same(back, family()) {
		t.Errorf("P2: the answer has become %v", back)
	}
	for _, x := range family() {
		r, _ := blob.Resolve(back, x.Id)
		spoil(r)
	}
	b = blob.Encode(back)
	spoil(b)
	b = blob.Encode(back)
	again, _ := blob.Decode(b)
	spoil(again)
	if !same(back, family()) || !bytes.Equal(b, written(family())) {
		t.Errorf("P2: what was handed in has become %v, %q", back, b)
	}
}

// P3, P5: the same is answered the next time, whatever was asked between.
func TestSameAgain(t *testing.T) {
	wrong := family()
	wrong[0].Id = ""
	for range 3 {
		for _, l := range [][]api.Locale{nil, small(), family(), many(10)} {
			right(t, l, true)
			resolves(t, l)
			right(t, wrong, false)
			refuses(t, blob.Encode(l)[1:])
			right(t, many(11), false)
		}
	}
}
