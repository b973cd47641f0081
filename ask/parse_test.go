package ask_test

import (
	"fmt"
	"math/rand"
	"slices"
	"strings"
	"testing"

	"interlocutor/api"
	"interlocutor/ask"
	"interlocutor/blob"
)

// P1201: what texts of a language mean, and how that is written: of dates and
// decimals in each style, in order, "" where one is refused; of moments in none.
func TestOrdinary(t *testing.T) {
	for s, want := range map[string]string{
		"3/4/25":         `4,2025,3,4:1["2025-03-04" ""] 4,2025,4,3:2["2025-04-03" ""] 0-6`,
		"3/4":            `4,2024,3,4:4["2024-03-04" ""] 4,2024,4,3:4["2024-04-03" ""] 0-3`,
		"1/2":            `4,2024,1,2:4["2024-01-02" "jan 2, 2024"] 4,2024,2,1:4["2024-02-01" "feb 1, 2024"] 0-3`,
		"Feb 9, 2024":    `4,2024,2,9:0["2024-02-09" "feb 9, 2024"] 0-11`,
		"february 9":     `4,2024,2,9:3["2024-02-09" "feb 9, 2024"] 0-10`,
		"2 days ago":     `4,2024,2,27:0["2024-02-27" "feb 27, 2024"] 0-10`,
		"9:30 pm":        `5,21,30,0:5["21:30:00"] 0-7`,
		"7":              `7,7,0:1["7.0" "` + "\ufffd" + `" "007\u2009"] 0-1`,
		"8":              `7,8,0:1["8.0" "日本" "008\u2009"] 0-1`,
		"9":              `7,9,0:1["9.0" "" "009\u2009"] 0-1`,
		"-1.5":           `7,-15,1:2["-1.5" "" "-001\u2009"] 0-4`,
		"1,234":          `7,1234,0:1["1234.0" "" "1234\u2009"] 0-5`,
		"fri 9:30":       `6,2024,3,1,9,30,0:0[] 0-8`,
		"$5":             `8,2,500:0["usd 5.00"] 0-2`,
		"5 jpy":          `8,10,5:1["jpy 5."] 0-5`,
		"2h 30m":         `9,9000:0["2h 30M 0s"] 0-6`,
		"2024-1-2 - fri": `10,2024,1,2,2024,3,1:0["2024-01-02 To 2024-03-01"] 0-14`,
		"jan 5 to FRI":   `10,2024,1,5,2024,3,1:3["2024-01-05 To 2024-03-01"] 0-12`,
	} {
		expect(t, speech(), "en", s, want)
	}
}

// P1201: L are readings by cost, then value, whatever stands where; Texts are theirs.
func TestOrder(t *testing.T) {
	expect(t, crowd([]int{9, 5, 7}, []int{6, 2, 8, 7}), "m", "a b", `9,5:1["5s"] 9,7:1["7s"] 9,9:1["9s"] 9,2:2["2s"] 9,6:2["6s"] 9,8:2["8s"] 0-3`)
	expect(t, crowd([]int{1000}, []int{1}), "m", "ab", `9,1000:1["1000s"] 9,1:2["1s"] 0-2`)
	l := english()
	l.Rules = append(l.Rules, does(0, 2, api.ADate, at(0, 0, 2), num, point, num), does(0, 3, api.ADur, at(0, 2), num, point, odd), does(0, 1, api.ATime, at(0, 2), num, point, num))
	expect(t, blob.Encode([]api.Locale{l}), "en", "1.5", `5,1,5,0:1["01:05:00"] 7,15,1:1["1.5" "" "001\u2009"] 4,2001,1,5:2["2001-01-05" "jan 5, 2001"] 0-3`)
}

// P1201: BadBlob, if blob.Decode refuses b: no bytes (the document's example), those
// cut off, those that go on, those of no languages that may be.
func TestBadBlob(t *testing.T) {
	refused := func(b []byte) {
		t.Helper()
		if got := told(b, "en", leap(), "7"); got != "blob" {
			t.Errorf("P1201: Parse with bytes %q: %s", b, got)
		}
		if got := written(b, "en", 0, value(api.VDate, 2024, 2, 9)); got != " blob" {
			t.Errorf("P1201: Render with bytes %q: %s", b, got)
		}
	}
	b := speech()
	refused(nil)
	refused([]byte{})
	for n := range b {
		refused(b[:n])
	}
	for more := range 256 {
		refused(append(slices.Clone(b), byte(more)))
		refused(append([]byte{byte(more)}, b...))
	}
	refused(append(slices.Clone(b), b...))
	refused([]byte("en"))
	for at := range b {
		for _, turn := range []byte{1, 0x80} {
			b[at] ^= turn
			if _, may := blob.Decode(b); !may {
				refused(b)
			} else if got := told(b, "en", leap(), "7"); got == "blob" {
				t.Errorf("P1201: Parse with a byte at %d turned: %s", at, got)
			}
			b[at] ^= turn
		}
	}
}

// P1201: UnknownLocale, if blob.Resolve has none: a name that is none, in capitals,
// empty, cut off; of no languages there is none at all.
func TestUnknownLocale(t *testing.T) {
	v := value(api.VDate, 2024, 2, 9)
	for _, id := range []string{"", "fr", "EN", "En", "eN", "en ", " en", "en-", "e", "n", "en-X", "en-x-", "en-x-y-z", "LONE", "\x00", "en\x00", "\uff45\uff4e", "0", "99", strings.Repeat("en", 1000)} {
		expect(t, speech(), id, "7", "locale")
		if got := written(speech(), id, 0, v); got != " locale" {
			t.Errorf("P1201: Render by %q: %s", id, got)
		}
	}
	for _, b := range [][]byte{blob.Encode(nil), make([]byte, 8)} {
		expect(t, b, "en", "7", "locale")
		expect(t, b, "", "7", "locale")
	}
	for _, l := range languages() {
		if _, e := ask.Parse(speech(), l.Id, leap(), "7"); e != api.OK {
			t.Errorf("P1201: %q: %v", l.Id, e)
		}
	}
}

// P1201: TooLong, if a text has more than 256 bytes, however many signs that are.
func TestTooLong(t *testing.T) {
	for n := range 600 {
		want := ""
		if n > 256 {
			want = "long"
		}
		for _, s := range []string{" ", "x", "\xff", "/"} {
			if s != "\xff" || n != 1 {
				expect(t, speech(), "en", strings.Repeat(s, n), want)
			}
		}
	}
	seven := `7,7,0:1["7.0" "` + "\ufffd" + `" "007\u2009"] `
	for s, want := range map[string]string{
		strings.Repeat(" ", 255) + "7":                            seven + "255-256",
		strings.Repeat(" ", 256) + "7":                            "long",
		"7" + strings.Repeat("\t", 255):                           seven + "0-1",
		"7" + strings.Repeat("\t", 256):                           "long",
		strings.Repeat("\u3000", 85) + "7":                        seven + "255-256",
		strings.Repeat("\u3000", 85) + "\u0667":                   "long",
		strings.Repeat("\u3000", 84) + "\uff17 ":                  seven + "252-255",
		strings.Repeat("\u3000", 85) + "\uff17":                   "long",
		strings.Repeat("\u00a0", 127) + "\u06f7":                  seven + "254-256",
		strings.Repeat("\u00a0", 128) + "7":                       "long",
		strings.Repeat("\U0001f600", 64):                          "",
		strings.Repeat("\U0001f600", 64) + "7":                    "long",
		strings.Repeat("\U0001f600", 65):                          "long",
		strings.Repeat("7", 1<<20):                                "long",
		"2h " + strings.Repeat("\u2003", 84) + "3":                "",
		"\xff" + strings.Repeat("\u2003", 84) + "\xff\xff":        "",
		"\xff" + strings.Repeat("\u2003", 84) + "7 \xff":          `9,49:0["0h 00M 49s"] 0-256`,
		"\xff" + strings.Repeat("\u2003", 84) + "7 \xff" + "\xff": "long",
	} {
		expect(t, speech(), "en", s, want)
	}
}

// P1201: BadReference, if ref is not civil.Right: no day, no time of day.
func TestBadReference(t *testing.T) {
	right := []api.Moment{leap(), {Y: 1, M: 1, D: 1}, {Y: 9999, M: 12, D: 31, H: 23, I: 59, S: 59}, {Y: 2023, M: 2, D: 28}, {Y: 2000, M: 2, D: 29}, {Y: 2024, M: 4, D: 30, H: 23}, {Y: 2024, M: 4, D: 30, I: 59}, {Y: 2024, M: 4, D: 30, S: 59}}
	wrong := []api.Moment{{}, {Y: 2023, M: 2, D: 29}, {Y: 1900, M: 2, D: 29}, {Y: 2024, M: 2, D: 30}, {Y: 2024, M: 4, D: 31}, {Y: 2024, M: 12, D: 32}, {Y: 2024, M: 1}, {Y: 2024, M: 1, D: -1}, {Y: 2024, D: 1}, {Y: 2024, M: 13, D: 1}, {Y: 2024, M: -1, D: 1}, {M: 1, D: 1}, {Y: -1, M: 1, D: 1}, {Y: 10000, M: 1, D: 1}, {Y: 20000, M: 1, D: 1},
		{Y: 2024, M: 1, D: 1, H: 24}, {Y: 2024, M: 1, D: 1, H: -1}, {Y: 2024, M: 1, D: 1, I: 60}, {Y: 2024, M: 1, D: 1, I: -1}, {Y: 2024, M: 1, D: 1, S: 60}, {Y: 2024, M: 1, D: 1, S: -1}}
	for _, n := range far() {
		wrong = append(wrong, api.Moment{Y: n, M: 1, D: 1}, api.Moment{Y: 2024, M: n, D: 1}, api.Moment{Y: 2024, M: 1, D: n}, api.Moment{Y: 2024, M: 1, D: 1, H: n}, api.Moment{Y: 2024, M: 1, D: 1, I: n}, api.Moment{Y: 2024, M: 1, D: 1, S: n})
	}
	for _, s := range []string{"7", "", "3/4", "x"} {
		for _, ref := range right {
			if got := told(speech(), "en", ref, s); got == "reference" || got != meant(speech(), "en", ref, s) {
				t.Errorf("P1201: %q from %v: %s", s, ref, got)
			}
		}
		for _, ref := range wrong {
			if got := told(speech(), "en", ref, s); got != "reference" {
				t.Errorf("P1201: %q from %v: %s", s, ref, got)
			}
		}
	}
}

// P1201: what a text means hangs on ref.
func TestReference(t *testing.T) {
	for ref, want := range map[api.Moment]string{
		leap():                        `4,2024,3,29:0["2024-03-29" ""] 0-17`,
		{Y: 1999, M: 12, D: 31}:       `4,2000,1,31:0["2000-01-31" "jan 31, 2000"] 0-17`,
		{Y: 9999, M: 12, D: 31}:       "",
		{Y: 2023, M: 1, D: 30}:        `4,2023,2,28:0["2023-02-28" "feb 28, 2023"] 0-17`,
		{Y: 9999, M: 11, D: 1}:        `4,9999,12,1:0["9999-12-01" ""] 0-17`,
		{Y: 1, M: 1, D: 1, H: 23}:     `4,1,2,1:0["0001-02-01" "feb 1, 0001"] 0-17`,
		{Y: 2024, M: 2, D: 30}:        "reference",
		{Y: 2024, M: 2, D: 29, S: 60}: "reference",
	} {
		if got := told(speech(), "en", ref, "1 months from now"); got != want {
			t.Errorf("P1201: from %v: %s, not %s", ref, got, want)
		}
	}
}

// P1201: Over, if a cell has more than 200 values, be it the text's or not.
func TestOver(t *testing.T) {
	for _, x := range []struct {
		ones, twos []int
		is         bool
	}{
		{row(1, 200), nil, false}, {row(1, 201), nil, true}, {nil, row(1, 200), false}, {nil, row(1, 201), true},
		{row(1, 150), row(151, 50), false}, {row(1, 150), row(151, 51), true}, {row(1, 140), row(1, 140), false}, {row(1, 140), row(80, 122), true},
	} {
		b := crowd(x.ones, x.twos)
		for _, s := range []string{"a b", " ab", "ab\t"} {
			if got := told(b, "m", leap(), s); (got == "over") != x.is || !x.is && got == "" {
				t.Errorf("P1201: %d and %d values: %s", len(x.ones), len(x.twos), got)
			}
		}
		for _, s := range []string{"x ab", "ab x", "ab7", "b a b"} {
			want := ""
			if x.is {
				want = "over"
			}
			expect(t, b, "m", s, want)
		}
		expect(t, b, "m", "b", "")
	}
}

// P6: where several errors apply, it is the first of BadBlob, UnknownLocale, TooLong,
// BadReference, Over.
func TestFirstError(t *testing.T) {
	for which := range 1 << 5 {
		has := func(n int) bool { return which>>n&1 > 0 }
		many, want := row(1, 200), "over"
		if has(4) {
			many = row(1, 201)
		}
		b, id, ref, s := crowd(many, nil), "m", leap(), "a b"
		if has(3) {
			ref, want = api.Moment{Y: 2023, M: 2, D: 29}, "reference"
		}
		if has(2) {
			s, want = s+strings.Repeat(" ", 254), "long"
		}
		if has(1) {
			id, want = "M", "locale"
		}
		if has(0) {
			b, want = b[:len(b)-1], "blob"
		}
		got := told(b, id, ref, s)
		if which == 0 {
			got, want = got[:len(`9,1:1["1s"]`)], `9,1:1["1s"]`
		}
		if got != want {
			t.Errorf("P6: %05b: %s, not %s", which, got, want)
		}
	}
}

// P1201: of a text without readings L is empty, Cut false, From and To 0; so of no
// text and of blanks alone.
func TestNoReadings(t *testing.T) {
	for _, s := range []string{"", " ", "\t", "\u3000", blanks, strings.Repeat(" ", 256), "x", "  x  ", "/", "jan", " jan ", "am", "7 x", "x 7", "7 7", "24:00", "2023-2-29", "\n", "7\n", "\n7", "\u200b7", "\x00", "\xe6", "\xff\xff", "\xed\xa0\x80", "日", "本日"} {
		want := ""
		if s == "\xe6" { // a byte that is no sign is one, which is a word here
			want = `9,49:2["0h 00M 49s"] 0-1`
		}
		expect(t, speech(), "en", s, want)
		expect(t, speech(), "lone", s, "")
	}
	expect(t, speech(), "lone", "7", "")
}

// P1201: From is where the first rune begins that is no blank, To where the last one
// ends: blanks ahead and behind, of each kind, signs of several bytes at the ends,
// bytes that are no signs.
func TestFromTo(t *testing.T) {
	b := speech()
	for _, s := range []string{"7", "\u0667", "\uff17", "77", "8/9", "\uff18/\u0969", "日本", "\xff", "\xff7\xff", "\xe6\u30007\t\x97", "\xf0 7 日本", "日本 7 \xf4", "$7", "\uff047", "7 \u2013 8", "\uff0d7", "fri", "\uff26RI", "9:30\u3000\uff30\uff2d", "août 7", "AOÛT 7"} {
		isRead := told(b, "en", leap(), s) != ""
		for _, ahead := range append(strings.Split(blanks, ""), "", "\t \u2003") {
			for _, behind := range []string{"", " ", "\t", "\u00a0", "\u2003 \u3000", "\u205f"} {
				got, want := told(b, "en", leap(), ahead+s+behind), meant(b, "en", leap(), ahead+s+behind)
				bounds := fmt.Sprintf(" %d-%d", len(ahead), len(ahead+s))
				if got != want || isRead && !strings.HasSuffix(got, bounds) {
					t.Errorf("P1201: %q: %s, not %s", ahead+s+behind, got, want)
				}
			}
		}
	}
	for s, want := range map[string]string{
		"\u20039:30 pm\u2003":   `5,21,30,0:5["21:30:00"] 3-10`,
		" \t\u3000$\u30001 \t":  `8,2,100:0["usd 1.00"] 5-10`,
		"\xff":                  `9,49:2["0h 00M 49s"] 0-1`,
		" \xff ":                `9,49:2["0h 00M 49s"] 1-2`,
		"\xe6 5 \x97":           `9,35:0["0h 00M 35s"] 0-5`,
		"\t日本5\xf0\t":           `9,40:0["0h 00M 40s"] 1-9`,
		"\xf05日本\u00a0":         `9,35:0["0h 00M 35s"] 0-8`,
		"\xe3\x805\xe3 ":        "",
		"\xc2\u00a05\xa0\u00a0": `9,35:0["0h 00M 35s"] 0-5`,
		"\ufffd\uff15\ufffd":    `9,35:0["0h 00M 35s"] 0-9`,
	} {
		expect(t, speech(), "en", s, want)
	}
}

// P1201: there are 64 readings at most; Cut tells whether there are more.
func TestMost(t *testing.T) {
	for _, n := range []int{1, 2, 63, 64, 65, 66, 128, 129, 199, 200} {
		for _, first := range []int{0, 1, n / 2, n - 1, n} {
			// those of a cost of 1 are greater values than all of a cost of 2
			a, e := ask.Parse(crowd(row(1000, first), row(1, n-first)), "m", leap(), "a b")
			if e != api.OK || len(a.L) != min(n, 64) || len(a.Texts) != len(a.L) || a.Cut != (n > 64) || a.From != 0 || a.To != 3 {
				t.Fatalf("P1201: of %d values %d, %v, %v", n, len(a.L), a, e)
			}
			for i, r := range a.L {
				want := fmt.Sprintf("%d:1", 1000+i)
				if i >= first {
					want = fmt.Sprintf("%d:2", 1+i-first)
				}
				if got := fmt.Sprintf("%d:%d", r.V.F[0], r.Cost); got != want || a.Texts[i][0] != want[:len(want)-2]+"s" {
					t.Errorf("P1201: of %d values, %d cheap ones, at %d: %s, not %s, %q", n, first, i, got, want, a.Texts[i])
				}
			}
		}
	}
	// each counts once
	for n := 60; n < 70; n++ {
		a, e := ask.Parse(crowd(row(1, n), row(1, n)), "m", leap(), "a b")
		if e != api.OK || len(a.L) != min(n, 64) || a.Cut != (n > 64) || a.L[0].Cost != 1 {
			t.Errorf("P1201: of %d values, each twice: %d, %v, %v", n, len(a.L), a.Cut, e)
		}
	}
}

// P1201: Texts are of each style of a reading's Kind, its Parent's ahead of its own.
func TestTexts(t *testing.T) {
	for _, x := range []struct{ id, s, want string }{
		{"en", "fri 9:30", `6,2024,3,1,9,30,0:0[] 0-8`},
		{"en-x", "fri 9:30", `6,2024,3,1,9,30,0:0["٩@٣"] 0-8`},
		{"en", "9:07", `5,9,7,0:5["09:07:00"] 0-4`},
		{"9", "1:07", `5,1,7,0:5["०१:०७:००" "pm:` + "\ufffd" + `"] 0-4`},
		{"9", "2:07", `5,2,7,0:5["०२:०७:००" ""] 0-4`},
		{"9", "1:09", `5,1,9,0:5["०१:०९:००" ""] 0-4`},
		{"en", "feb 3", `4,2024,2,3:3["2024-02-03" "feb 3, 2024"] 0-5`},
		{"en-x", "feb 3", `4,2024,2,3:3["٢٠٢٤-٠٢-٠٣" "feb ٣, ٢٠٢٤" "٢"] 0-5`},
		{"en-x", "2024-4-3", `4,2024,4,3:0["٢٠٢٤-٠٤-٠٣" "" "٤"] 0-8`},
		{"en-x", "2024-3-3", `4,2024,3,3:0["٢٠٢٤-٠٣-٠٣" "مارس ٣, ٢٠٢٤" "٣"] 0-8`},
		{"9", "7654321", `7,7654321,0:1["७६५४३२१.०" "" "७६५४३२१\u2009" "` + strings.Repeat("७६५४३२१", 12) + `"] 0-7`},
		{"9", "87654321", `7,87654321,0:1["८७६५४३२१.०" "" "८७६५४३२१\u2009" ""] 0-8`}, // of more than 256 bytes
	} {
		expect(t, speech(), x.id, x.s, x.want)
	}
	l := api.Locale{Id: "a", Parent: -1, Lex: []api.Entry{word(odd, 5, "five")}, Rules: []api.Rule{does(0, 0, api.AWhole, at(0), num)}}
	styles := []api.Style{style(api.VDec, spelt(0, odd)), style(api.VDec, text("")), style(api.VTime, text("x")), style(api.VDec, field(2, 0)), style(api.VDec, field(0, 0)), style(api.VDec, spelt(1, odd))}
	for range styles {
		l.Styles = styles
		want := "7,5,0:0["
		for _, s := range styles {
			switch p := s.Parts[0]; {
			case s.Kind == api.VTime:
				continue
			case p == spelt(0, odd):
				want += `"five" `
			case p == field(0, 0):
				want += `"5" `
			default:
				want += `"" `
			}
		}
		expect(t, blob.Encode([]api.Locale{l}), "a", "5", strings.TrimSuffix(want, " ")+"] 0-1")
		styles = append(slices.Clone(styles[1:]), styles[0])
	}
}

// P1201: a language's own digits are typed and written; any others may be typed.
func TestDigits(t *testing.T) {
	for _, s := range []string{"2024-09-30", "٢٠٢٤-٠٩-٣٠", "۲۰۲۴-۰۹-۳۰", "२०२४-०९-३०", "２０２４-０９-３０", "2٠۲४-0９-٣۰"} {
		for id, want := range map[string]string{
			"en":     `4,2024,9,30:0["2024-09-30" ""]`,
			"en-x":   `4,2024,9,30:0["٢٠٢٤-٠٩-٣٠" "" "٩"]`,
			"en-x-y": `4,2024,9,30:0["۲۰۲۴-۰۹-۳۰" "" "۹"]`,
			"9":      `4,2024,9,30:0["२०२४-०९-३०" ""]`,
		} {
			expect(t, speech(), id, s, fmt.Sprintf("%s 0-%d", want, len(s)))
		}
	}
}

// P1201: a language that is like another one has its words, rules and styles ahead of
// its own, and nobody else's.
func TestLikeAnother(t *testing.T) {
	for _, x := range []struct{ id, s, want string }{
		{"en", "مارس 5", ""},
		{"en-x", "مارس 5", `4,2024,3,5:3["٢٠٢٤-٠٣-٠٥" "مارس ٥, ٢٠٢٤" "٣"] 0-10`},
		{"en-x-y", "مارس 5", `4,2024,3,5:3["۲۰۲۴-۰۳-۰۵" "مارس ۵, ۲۰۲۴" "۳"] 0-10`},
		{"9", "مارس 5", ""},
		{"en-x", "first 5", `4,2024,1,5:3["٢٠٢٤-٠١-٠٥" "jan ٥, ٢٠٢٤" "١"] 0-7`},
		{"en", "first 5", ""},
		{"en-x", "5", `7,5,0:1["٥.٠" "" "٠٠٥\u2009"] 0-1`},
		{"en-x-y", "5", `7,5,0:1["۵.۰" "" "۰۰۵\u2009"] 4,2024,5,5:9["۲۰۲۴-۰۵-۰۵" "" "۵"] 0-1`},
		{"lone", "5", ""},
	} {
		expect(t, speech(), x.id, x.s, x.want)
	}
}

// P1201: texts by chance are answered by its words, read once more.
func TestByChance(t *testing.T) {
	by := rand.New(rand.NewSource(12))
	pieces := []string{"1", "2", "3", "12", "30", "125", "2024", "/", "-", ".", ",", ":", " ", "\t", "\u3000", "JAN", "am", "days", "ago", "usd", "h", "m", "to", "fri", "$", "x", "\xff", "日本", "\u0663", "\uff17", "3/4", "3/4/25", "feb 29", "9:30", "9 PM", "1.5", "1,234", "$5", "2h", "10m", "2024-1-2", " - "}
	b, some := speech(), 0
	for range 10_000 {
		s := ""
		for range 1 + by.Intn(4) {
			s += pieces[by.Intn(len(pieces))]
		}
		id := []string{"en", "en-x", "en-x-y", "9", "9", "lone"}[by.Intn(6)]
		ref := api.Moment{Y: []int{1, 40, 1999, 2024, 9999}[by.Intn(5)], M: 1 + by.Intn(12), D: 1 + by.Intn(30)}
		got, want := told(b, id, ref, s), meant(b, id, ref, s)
		if got != want {
			t.Fatalf("P1201: %s from %v: %q: %s, not %s", id, ref, s, got, want)
		}
		if len(got) > len("reference") {
			some++
		}
	}
	if some < 1000 {
		t.Errorf("only %d texts have readings", some)
	}
}
