package blob_test

import (
	"bytes"
	"encoding/binary"
	"encoding/hex"
	"math"
	"math/rand"
	"reflect"
	"slices"
	"strings"
	"testing"

	"interlocutor/api"
	"interlocutor/blob"
)

// small is a language with one of each, or two.
func small() []api.Locale {
	return []api.Locale{{
		Id: "a-1", Parent: -1, Digits: 2,
		Lex:    []api.Entry{{Text: "é", Class: 49, Value: -1000000000}, {Text: "k", Class: 1, Value: 258}},
		Rules:  []api.Rule{{Lhs: 19, Rhs: []int{-61, 3}, Act: api.Act{Op: api.AThis, P: []int{1, 0}}, Cost: 100}},
		Styles: []api.Style{{Kind: api.VSpan, Parts: []api.Part{text("\xff "), field(5, 9), word(4, 48)}}},
	}}
}

// P502: the bytes, by hand.
func TestBytesByHand(t *testing.T) {
	hand := `
	0000000000000001
	0000000000000003 612d31
	ffffffffffffffff 0000000000000002
	0000000000000002
		0000000000000002 c3a9 0000000000000031 ffffffffc4653600
		0000000000000001 6b 0000000000000001 0000000000000102
	0000000000000001
		0000000000000013
		0000000000000002 ffffffffffffffc3 0000000000000003
		0000000000000002
		0000000000000002 0000000000000001 0000000000000000
		0000000000000064
	0000000000000001
		000000000000000a
		0000000000000003
			0000000000000000 0000000000000002 ff20 0000000000000000 0000000000000000 0000000000000000
			0000000000000001 0000000000000000 0000000000000005 0000000000000009 0000000000000000
			0000000000000002 0000000000000000 0000000000000004 0000000000000000 0000000000000030`
	want, err := hex.DecodeString(strings.Join(strings.Fields(hand), ""))
	if err != nil {
		t.Fatal(err)
	}
	if got := blob.Encode(small()); !bytes.Equal(got, want) {
		t.Errorf("P502: %x, not %x", got, want)
	}
	if got, is := blob.Decode(want); !is || !same(got, small()) {
		t.Errorf("P502: Decode of these bytes is %v, %v", got, is)
	}
}

// P502: of no languages there is how many alone; no bytes are none (the
// document's example).
func TestBytesOfNone(t *testing.T) {
	none := make([]byte, 8)
	for _, l := range [][]api.Locale{nil, {}} {
		if b := blob.Encode(l); !bytes.Equal(b, none) {
			t.Errorf("P502: Encode of none is %q", b)
		}
	}
	if l, is := blob.Decode(none); !is || len(l) > 0 {
		t.Errorf("P502: Decode of none is %v, %v", l, is)
	}
	refuses(t, nil)
	refuses(t, []byte{})
}

// P503: there and back, the other way round too.
func TestThereAndBack(t *testing.T) {
	for _, l := range [][]api.Locale{nil, small(), family(), many(1), many(10)} {
		right(t, l, true)
		b := blob.Encode(l)
		back, _ := blob.Decode(b)
		if !bytes.Equal(blob.Encode(back), b) {
			t.Errorf("P503: %q, back and there again, is %q", b, blob.Encode(back))
		}
	}
}

// P502: bytes that are cut off, at either end, or of which some are left out.
func TestBytesCutOff(t *testing.T) {
	for _, l := range [][]api.Locale{nil, small(), family()} {
		b := blob.Encode(l)
		for at := range b {
			refuses(t, b[:at])
			refuses(t, slices.Clone(b[:at]))
			decodes(t, b[at+1:])
			for _, n := range []int{1, 7, 8, 16, 40} {
				decodes(t, slices.Concat(b[:at], b[min(at+n, len(b)):]))
			}
		}
	}
}

// P502: bytes that go on, and bytes with others between.
func TestBytesThatGoOn(t *testing.T) {
	for _, l := range [][]api.Locale{nil, small(), family()} {
		b := blob.Encode(l)
		for more := range 256 {
			refuses(t, append(slices.Clone(b), byte(more)))
		}
		refuses(t, append(slices.Clone(b), make([]byte, 8)...))
		refuses(t, append(slices.Clone(b), b...))
		for at := range b {
			decodes(t, slices.Insert(slices.Clone(b), at, 0))
			decodes(t, slices.Insert(slices.Clone(b), at, make([]byte, 8)...))
		}
	}
}

// P502: each byte turned into each other one, each bit turned.
func TestBytesTurned(t *testing.T) {
	took := 0
	for _, l := range [][]api.Locale{nil, small(), family()[:3]} {
		b := blob.Encode(l)
		for at, is := range b {
			for other := range 256 {
				if b[at] = byte(other); decodes(t, b) {
					took++
				}
			}
			b[at] = is
		}
	}
	b := blob.Encode(family())
	for at := range b {
		for bit := range 8 {
			b[at] ^= 1 << bit
			decodes(t, b)
			b[at] ^= 1 << bit
		}
	}
	if took < 1000 {
		t.Errorf("%d of the bytes were taken: too few to tell", took)
	}
}

// P502, P9: each number (those that tell how many, too) next to what it is, below
// zero, far.
func TestNumbersTurned(t *testing.T) {
	for _, l := range [][]api.Locale{nil, small(), family()} {
		s := &scribe{}
		s.value(reflect.ValueOf(l))
		for _, at := range s.numbers {
			b := slices.Clone(s.bytes)
			is := int(binary.BigEndian.Uint64(b[at:]))
			for _, n := range append(far(), -1000000001, -62, -2, -1, 0, 1, 2, 3, 6, 7, 12, 13, 20, 21, 30, 31, 60, 61, 1000000001, is-1, is+1, is+256, -is, ^is, is+1<<32, is^math.MinInt) {
				binary.BigEndian.PutUint64(b[at:], uint64(n))
				decodes(t, b)
			}
		}
	}
}

// joined is the bytes of all these, one behind the other.
func joined(all ...any) []byte {
	var b []byte
	for _, x := range all {
		b = append(b, written(x)...)
	}
	return b
}

// P502, P1: how many there are is too great, or below zero, whatever stands behind
// it: no room is made for them.
func TestCountsAlone(t *testing.T) {
	locale := joined(1, "a", -1, 0)
	for name, ahead := range map[string][]byte{
		"locales": nil,
		"Id":      joined(1),
		"Lex":     locale,
		"Text":    slices.Concat(locale, joined(1)),
		"Rules":   slices.Concat(locale, joined(0)),
		"Rhs":     slices.Concat(locale, joined(0, 1, 0)),
		"P":       slices.Concat(locale, joined(0, 1, 0, []int{-1}, 0)),
		"Styles":  slices.Concat(locale, joined(0, 0)),
		"Parts":   slices.Concat(locale, joined(0, 0, 1, api.VDate)),
		"a part":  slices.Concat(locale, joined(0, 0, 1, api.VDate, 1, api.PText)),
	} {
		for _, n := range append(far(), -1, -2, -8, 1, 7, 13, 21, 31, 61, 100, 1<<20, 1<<28, 1<<60, 1<<61, 1<<62) {
			for _, behind := range []int{0, 1, 8, 64} {
				if l, is := blob.Decode(slices.Concat(ahead, written(n), make([]byte, behind))); is || len(l) > 0 {
					t.Errorf("P502: %d for how many of %s: %v, %v", n, name, l, is)
				}
			}
		}
	}
}

// P502: bytes of all shapes of languages that are not Right are told by their
// scribe, and refused.
func TestNotRightIsRefused(t *testing.T) {
	long := strings.Repeat("a", 21)
	for _, change := range []func(x *api.Locale){
		func(x *api.Locale) { x.Id = "" },
		func(x *api.Locale) { x.Id = long },
		func(x *api.Locale) { x.Parent = 0 },
		func(x *api.Locale) { x.Digits = 4 },
		func(x *api.Locale) { x.Lex[1].Text = long },
		func(x *api.Locale) { x.Lex[1].Text = "K" },
		func(x *api.Locale) { x.Lex[0].Class = 0 },
		func(x *api.Locale) { x.Lex[0].Value-- },
		func(x *api.Locale) { x.Rules[0].Cost++ },
		func(x *api.Locale) { x.Rules[0].Act.P[0] = 2 },
		func(x *api.Locale) { x.Rules = append(x.Rules, pick(3, 3)) },
		func(x *api.Locale) { x.Styles[0].Kind++ },
		func(x *api.Locale) { x.Styles[0].Parts = nil },
		func(x *api.Locale) { x.Styles[0].Parts[1].Text = "x" },
	} {
		l := small()
		change(&l[0])
		right(t, l, false)
	}
}

// P1: any bytes are answered; those by chance (the same each time), and those of
// small numbers.
func TestAnyBytes(t *testing.T) {
	by := rand.New(rand.NewSource(5))
	for n := range 300 {
		b := make([]byte, n)
		by.Read(b)
		decodes(t, b)
		for at := range b {
			if at%8 < 7 {
				b[at] = 0
			} else {
				b[at] %= 3
			}
		}
		decodes(t, b)
	}
	refuses(t, make([]byte, 1<<20))
	refuses(t, bytes.Repeat([]byte{0xff}, 1<<20))
	refuses(t, bytes.Repeat(written(1), 1<<17))
	refuses(t, slices.Concat(written(1<<17), make([]byte, 1<<20)))
}
