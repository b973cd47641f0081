package fold_test

import (
	"math"
	"slices"
	"strconv"
	"strings"
	"testing"

	"interlocutor/fold"
)

// row is one range of P301: its numbers, first to last, are made alike to those
// from to on, or (one) all to it.
type row struct {
	first, last, to int
	one             bool
}

// rows holds P301, spelt out by hand, with the wide signs cut up into what
// becomes of each piece.
func rows() []row {
	return []row{
		{0x9, 0x9, 0x20, true}, {0xa0, 0xa0, 0x20, true}, {0x2000, 0x200a, 0x20, true},
		{0x202f, 0x202f, 0x20, true}, {0x205f, 0x205f, 0x20, true}, {0x3000, 0x3000, 0x20, true},
		{0x2010, 0x2015, 0x2d, true}, {0x2212, 0x2212, 0x2d, true},
		{0x2018, 0x2019, 0x27, true}, {0x2bc, 0x2bc, 0x27, true},
		{0xff01, 0xff20, 0x21, false}, {0xff21, 0xff3a, 0x61, false}, {0xff3b, 0xff5e, 0x5b, false},
		{0x660, 0x669, 0x30, false}, {0x6f0, 0x6f9, 0x30, false}, {0x966, 0x96f, 0x30, false},
		{0x41, 0x5a, 0x61, false},
		{0xc0, 0xd6, 0xe0, false}, {0xd8, 0xde, 0xf8, false},
		{0x391, 0x3a1, 0x3b1, false}, {0x3a3, 0x3a9, 0x3c3, false},
		{0x410, 0x42f, 0x430, false}, {0x400, 0x40f, 0x450, false},
	}
}

// changed holds each number that P301 changes, and what becomes of it.
func changed() map[int]int {
	list := map[int]int{}
	for _, x := range rows() {
		for r := x.first; r <= x.last; r++ {
			list[r] = x.to
			if !x.one {
				list[r] += r - x.first
			}
		}
	}
	return list
}

// alike is Rune by that list.
func alike(list map[int]int, r int) int {
	if to, is := list[r]; is {
		return to
	}
	return r
}

// P301: every number a sign may have, and those around.
func TestRuneAll(t *testing.T) {
	list := changed()
	for r := -0x1000; r < 0x120000; r++ {
		if got, want := fold.Rune(r), alike(list, r); got != want {
			t.Fatalf("P301: Rune(%#x) is %#x, not %#x", r, got, want)
		}
	}
}

// P301: the first and the last number of each range, and those next to it.
func TestRuneEdges(t *testing.T) {
	for _, x := range []struct{ r, want int }{
		{0x8, 0x8}, {0x9, 0x20}, {0xa, 0xa}, {0x20, 0x20},
		{0x9f, 0x9f}, {0xa0, 0x20}, {0xa1, 0xa1},
		{0x1fff, 0x1fff}, {0x2000, 0x20}, {0x200a, 0x20}, {0x200b, 0x200b},
		{0x202e, 0x202e}, {0x202f, 0x20}, {0x2030, 0x2030},
		{0x205e, 0x205e}, {0x205f, 0x20}, {0x2060, 0x2060},
		{0x2fff, 0x2fff}, {0x3000, 0x20}, {0x3001, 0x3001},
		{0x200f, 0x200f}, {0x2010, 0x2d}, {0x2015, 0x2d}, {0x2016, 0x2016},
		{0x2211, 0x2211}, {0x2212, 0x2d}, {0x2213, 0x2213},
		{0x2017, 0x2017}, {0x2018, 0x27}, {0x2019, 0x27}, {0x201a, 0x201a},
		{0x2bb, 0x2bb}, {0x2bc, 0x27}, {0x2bd, 0x2bd},
		{0xff00, 0xff00}, {0xff01, 0x21}, {0xff5e, 0x7e}, {0xff5f, 0xff5f},
		{0xff0f, 0x2f}, {0xff10, 0x30}, {0xff19, 0x39}, {0xff1a, 0x3a},
		{0xff20, 0x40}, {0xff21, 0x61}, {0xff3a, 0x7a}, {0xff3b, 0x5b}, {0xff41, 0x61}, {0xff5a, 0x7a},
		{0x65f, 0x65f}, {0x660, 0x30}, {0x669, 0x39}, {0x66a, 0x66a},
		{0x6ef, 0x6ef}, {0x6f0, 0x30}, {0x6f9, 0x39}, {0x6fa, 0x6fa},
		{0x965, 0x965}, {0x966, 0x30}, {0x96f, 0x39}, {0x970, 0x970},
		{0x2f, 0x2f}, {0x30, 0x30}, {0x39, 0x39}, {0x3a, 0x3a},
		{0x40, 0x40}, {0x41, 0x61}, {0x5a, 0x7a}, {0x5b, 0x5b}, {0x61, 0x61}, {0x7a, 0x7a},
		{0xbf, 0xbf}, {0xc0, 0xe0}, {0xd6, 0xf6}, {0xd7, 0xd7}, {0xd8, 0xf8}, {0xde, 0xfe}, {0xdf, 0xdf},
		{0x390, 0x390}, {0x391, 0x3b1}, {0x3a1, 0x3c1}, {0x3a2, 0x3a2}, {0x3a3, 0x3c3}, {0x3a9, 0x3c9}, {0x3aa, 0x3aa},
		{0x3ff, 0x3ff}, {0x400, 0x450}, {0x40f, 0x45f}, {0x410, 0x430}, {0x42f, 0x44f}, {0x430, 0x430},
	} {
		if got := fold.Rune(x.r); got != x.want {
			t.Errorf("P301: Rune(%#x) is %#x, not %#x", x.r, got, x.want)
		}
	}
}

// P301, P9: numbers that no sign has stay as they are, those too that end with a
// sign's bits.
func TestRuneFar(t *testing.T) {
	far := []int{-1, math.MinInt, math.MinInt + 1, math.MaxInt, math.MaxInt - 1, math.MinInt32, math.MaxInt32, math.MaxUint32, 0x10ffff, 0x110000}
	for _, x := range rows() {
		for _, r := range []int{x.first, x.last} {
			far = append(far, -r, r+1<<16, r+1<<20, r+1<<31, r+1<<32, r+1<<62, r-1<<32, r-1<<62, r+math.MinInt)
		}
	}
	for _, r := range far {
		if got := fold.Rune(r); got != r {
			t.Errorf("P301, P9: Rune(%#x) is %#x", r, got)
		}
	}
}

// most tells how long the sign is that a byte begins, and between which bounds
// the byte behind it is (P302).
func most(b byte) (long int, low, high byte) {
	switch {
	case b < 0x80:
		return 1, 0, 0
	case b >= 0xc2 && b <= 0xdf:
		return 2, 0x80, 0xbf
	case b == 0xe0:
		return 3, 0xa0, 0xbf
	case b == 0xed:
		return 3, 0x80, 0x9f
	case b >= 0xe1 && b <= 0xef:
		return 3, 0x80, 0xbf
	case b == 0xf0:
		return 4, 0x90, 0xbf
	case b == 0xf4:
		return 4, 0x80, 0x8f
	case b >= 0xf1 && b <= 0xf3:
		return 4, 0x80, 0xbf
	}
	return 0, 0, 0
}

// first tells the sign that a text begins with, and its length, by P302's words
// alone.
func first(s string) (r, long int) {
	long, low, high := most(s[0])
	if long == 1 {
		return int(s[0]), 1
	}
	if long == 0 || len(s) < long || s[1] < low || s[1] > high {
		return 0xfffd, 1
	}
	r = int(s[0]) & (0xff >> (long + 1))
	for i := 1; i < long; i++ {
		if s[i] < 0x80 || s[i] > 0xbf {
			return 0xfffd, 1
		}
		r = r<<6 | int(s[i])&0x3f
	}
	return r, long
}

// written is a sign as UTF-8, apart from the library.
func written(r int) []byte {
	tail := func(shift int) byte { return byte(0x80 | r>>shift&0x3f) }
	switch {
	case r < 0x80:
		return []byte{byte(r)}
	case r < 0x800:
		return []byte{byte(0xc0 | r>>6), tail(0)}
	case r < 0x10000:
		return []byte{byte(0xe0 | r>>12), tail(6), tail(0)}
	}
	return []byte{byte(0xf0 | r>>18), tail(12), tail(6), tail(0)}
}

// expected is Fold and Text by P302's words.
func expected(list map[int]int, s string) (runes, offsets []int, text string) {
	var b []byte
	for at := 0; at < len(s); {
		r, long := first(s[at:])
		r = alike(list, r)
		runes, offsets, b = append(runes, r), append(offsets, at), append(b, written(r)...)
		at += long
	}
	return runes, append(offsets, len(s)), string(b)
}

// check holds Fold and Text of s against what is expected, and P303.
func check(t *testing.T, list map[int]int, s string) {
	t.Helper()
	runes, offsets := fold.Fold(s)
	text := fold.Text(s)
	wantRunes, wantOffsets, wantText := expected(list, s)
	if !slices.Equal(runes, wantRunes) || !slices.Equal(offsets, wantOffsets) {
		t.Fatalf("P302: Fold(%q) is %x, %d, not %x, %d", s, runes, offsets, wantRunes, wantOffsets)
	}
	if text != wantText {
		t.Fatalf("P302: Text(%q) is %q, not %q", s, text, wantText)
	}
	again, _ := fold.Fold(text)
	if !slices.Equal(again, runes) {
		t.Fatalf("P303: Fold(%q) is %x, that of its Text %x", s, runes, again)
	}
	if twice := fold.Text(text); twice != text {
		t.Fatalf("P303: Text(%q) is %q, that of it %q", s, text, twice)
	}
}

// P302, P303: every text of one byte and of two, and those of three and four made
// of the bytes at which a range begins or ends, and of those next to them.
func TestFoldBytes(t *testing.T) {
	list := changed()
	for a := range 256 {
		check(t, list, string([]byte{byte(a)}))
		for b := range 256 {
			check(t, list, string([]byte{byte(a), byte(b)}))
		}
	}
	edges := []byte{0, 'A', 0x7f, 0x80, 0x8f, 0x90, 0x9f, 0xa0, 0xbf, 0xc0, 0xc1, 0xc2, 0xdf, 0xe0, 0xe1, 0xec, 0xed, 0xee, 0xef, 0xf0, 0xf1, 0xf3, 0xf4, 0xf5, 0xff}
	for _, a := range edges {
		for _, b := range edges {
			for _, c := range edges {
				check(t, list, string([]byte{a, b, c}))
				for _, d := range edges {
					check(t, list, string([]byte{a, b, c, d}))
				}
			}
		}
	}
}

// P302, P303: every sign, whole, cut off at the end, and cut off ahead of another.
func TestFoldSigns(t *testing.T) {
	list := changed()
	for r := range 0x110000 {
		s := string(written(r))
		check(t, list, s)
		if r%0x3f == 0 || r < 0x1000 {
			for cut := 1; cut < len(s); cut++ {
				check(t, list, s[:cut])
				check(t, list, s[:cut]+"B"+s)
				check(t, list, s[cut:]+s)
			}
		}
	}
}

// P302: what is known by hand.
func TestFoldKnown(t *testing.T) {
	for _, x := range []struct {
		s       string
		runes   []int
		offsets []int
		text    string
	}{
		{"", nil, []int{0}, ""},
		{"3/4", []int{0x33, 0x2f, 0x34}, []int{0, 1, 2, 3}, "3/4"},
		{"Next\tFriday", []int{0x6e, 0x65, 0x78, 0x74, 0x20, 0x66, 0x72, 0x69, 0x64, 0x61, 0x79}, []int{0, 1, 2, 3, 4, 5, 6, 7, 8, 9, 10, 11}, "next friday"},
		{"\x00\x7f", []int{0, 0x7f}, []int{0, 1, 2}, "\x00\x7f"},
		{"\x80", []int{0xfffd}, []int{0, 1}, "\xef\xbf\xbd"},
		{"\xc1\xbf", []int{0xfffd, 0xfffd}, []int{0, 1, 2}, "\xef\xbf\xbd\xef\xbf\xbd"},
		{"\xc2\x80", []int{0x80}, []int{0, 2}, "\xc2\x80"},
		{"\xc2\xa0\xc3\x96", []int{0x20, 0xf6}, []int{0, 2, 4}, " \xc3\xb6"},
		{"\xdf\xbf", []int{0x7ff}, []int{0, 2}, "\xdf\xbf"},
		{"\xdf\xc0\x80", []int{0xfffd, 0xfffd, 0xfffd}, []int{0, 1, 2, 3}, strings.Repeat("\xef\xbf\xbd", 3)},
		{"\xe0\x9f\xbf", []int{0xfffd, 0xfffd, 0xfffd}, []int{0, 1, 2, 3}, strings.Repeat("\xef\xbf\xbd", 3)},
		{"\xe0\xa0\x80", []int{0x800}, []int{0, 3}, "\xe0\xa0\x80"},
		{"\xe0\xa5\xaf\xd9\xa0\xdb\xb5", []int{0x39, 0x30, 0x35}, []int{0, 3, 5, 7}, "905"},
		{"\xed\x9f\xbf", []int{0xd7ff}, []int{0, 3}, "\xed\x9f\xbf"},
		{"\xed\xa0\x80", []int{0xfffd, 0xfffd, 0xfffd}, []int{0, 1, 2, 3}, strings.Repeat("\xef\xbf\xbd", 3)},
		{"\xee\x80\x80", []int{0xe000}, []int{0, 3}, "\xee\x80\x80"},
		{"\xef\xbf\xbd", []int{0xfffd}, []int{0, 3}, "\xef\xbf\xbd"},
		{"\xef\xbf\xbf", []int{0xffff}, []int{0, 3}, "\xef\xbf\xbf"},
		{"\xef\xbc\xba\xe3\x80\x80\xe2\x88\x92", []int{0x7a, 0x20, 0x2d}, []int{0, 3, 6, 9}, "z -"},
		{"\xe2\x80\x98\xca\xbc\xe2\x80\x99", []int{0x27, 0x27, 0x27}, []int{0, 3, 5, 8}, "'''"},
		{"\xd0\x81\xd0\x90\xce\xa9", []int{0x451, 0x430, 0x3c9}, []int{0, 2, 4, 6}, "\xd1\x91\xd0\xb0\xcf\x89"},
		{"\xf0\x8f\xbf\xbf", []int{0xfffd, 0xfffd, 0xfffd, 0xfffd}, []int{0, 1, 2, 3, 4}, strings.Repeat("\xef\xbf\xbd", 4)},
		{"\xf0\x90\x80\x80", []int{0x10000}, []int{0, 4}, "\xf0\x90\x80\x80"},
		{"\xf4\x8f\xbf\xbf", []int{0x10ffff}, []int{0, 4}, "\xf4\x8f\xbf\xbf"},
		{"\xf4\x90\x80\x80", []int{0xfffd, 0xfffd, 0xfffd, 0xfffd}, []int{0, 1, 2, 3, 4}, strings.Repeat("\xef\xbf\xbd", 4)},
		{"\xf5\x80\x80\x80", []int{0xfffd, 0xfffd, 0xfffd, 0xfffd}, []int{0, 1, 2, 3, 4}, strings.Repeat("\xef\xbf\xbd", 4)},
		{"\xf0\x9f\x98\x80", []int{0x1f600}, []int{0, 4}, "\xf0\x9f\x98\x80"},
		{"\xf0\x9f\x98", []int{0xfffd, 0xfffd, 0xfffd}, []int{0, 1, 2, 3}, strings.Repeat("\xef\xbf\xbd", 3)},
		{"\xf0\x9f\x98A", []int{0xfffd, 0xfffd, 0xfffd, 0x61}, []int{0, 1, 2, 3, 4}, strings.Repeat("\xef\xbf\xbd", 3) + "a"},
		{"\xe2\x80\xc3\x89", []int{0xfffd, 0xfffd, 0xe9}, []int{0, 1, 2, 4}, "\xef\xbf\xbd\xef\xbf\xbd\xc3\xa9"},
	} {
		runes, offsets := fold.Fold(x.s)
		if !slices.Equal(runes, x.runes) || !slices.Equal(offsets, x.offsets) {
			t.Errorf("P302: Fold(%q) is %x, %d, not %x, %d", x.s, runes, offsets, x.runes, x.offsets)
		}
		if text := fold.Text(x.s); text != x.text {
			t.Errorf("P302: Text(%q) is %q, not %q", x.s, text, x.text)
		}
	}
}

// P302, P303: a long text of all kinds of signs, whole and broken ones.
func TestFoldLong(t *testing.T) {
	var b []byte
	for i := range 40000 {
		b = append(b, written(i*7919%0x110000)...)
		b = append(b, byte(i*31>>3))
	}
	check(t, changed(), string(b))
}

// P302: each digit of each system, there and back.
func TestDigit(t *testing.T) {
	for system, digits := range []string{
		"0123456789",
		"\u0660\u0661\u0662\u0663\u0664\u0665\u0666\u0667\u0668\u0669",
		"\u06f0\u06f1\u06f2\u06f3\u06f4\u06f5\u06f6\u06f7\u06f8\u06f9",
		"\u0966\u0967\u0968\u0969\u096a\u096b\u096c\u096d\u096e\u096f",
	} {
		for d, want := range []rune(digits) {
			got := fold.Digit(system, d)
			if got != string(want) {
				t.Errorf("P302: Digit(%d, %d) is %q, not %q", system, d, got, string(want))
			}
			if back := fold.Text(got); back != strconv.Itoa(d) {
				t.Errorf("P302: Text(Digit(%d, %d)) is %q", system, d, back)
			}
		}
	}
}

// P1, P8, P9: no such system, or no such digit: no text, and no panic.
func TestDigitWrong(t *testing.T) {
	systems := []int{-1, -4, 4, 5, 1 << 32, 1<<32 + 1, -1 << 32, math.MaxInt, math.MinInt}
	digits := []int{-1, -10, 10, 11, 1 << 32, 1<<32 + 1, -1 << 32, math.MaxInt, math.MinInt}
	refused := func(system, d int) {
		if got := fold.Digit(system, d); got != "" {
			t.Errorf("P8, P9: Digit(%d, %d) is %q", system, d, got)
		}
	}
	for _, system := range systems {
		for d := range 10 {
			refused(system, d)
		}
		for _, d := range digits {
			refused(system, d)
		}
	}
	for system := range 4 {
		for _, d := range digits {
			refused(system, d)
		}
	}
}

// fill writes n all over a list, its spare room too.
func fill(list []int, n int) {
	list = list[:cap(list)]
	for i := range list {
		list[i] = n
	}
}

// P2, P3: runes and offsets share nothing, with one another and with later
// answers.
func TestFoldNew(t *testing.T) {
	for _, s := range []string{"", "A", "Next Friday", "\xc3\x89t\xc3\xa9 \xff", strings.Repeat("\xe2\x80\x93", 100)} {
		wantRunes, wantOffsets, _ := expected(changed(), s)
		runes, offsets := fold.Fold(s)
		fill(runes, -7)
		if !slices.Equal(offsets, wantOffsets) {
			t.Errorf("P2: Fold(%q): runes changed, offsets are %d", s, offsets)
		}
		fill(offsets, -9)
		if slices.Contains(runes, -9) {
			t.Errorf("P2: Fold(%q): offsets changed, runes are %d", s, runes)
		}
		runes, offsets = fold.Fold(s)
		if !slices.Equal(runes, wantRunes) || !slices.Equal(offsets, wantOffsets) {
			t.Errorf("P3: Fold(%q) is %x, %d the next time", s, runes, offsets)
		}
	}
}
