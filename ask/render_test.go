package ask_test

import (
	"testing"

	"interlocutor/api"
	"interlocutor/blob"
)

// values are some of each kind, right and not.
func values() []api.Value {
	return []api.Value{
		{}, value(api.VNumber, 7, 1), value(api.VWord, 1), value(api.VMark), value(11, 1), value(-1, 1),
		value(api.VDate, 2024, 2, 9), value(api.VDate, 2024, 3, 9), value(api.VDate, 1, 1, 1), value(api.VDate, 9999, 12, 31), value(api.VDate, 2023, 2, 29), value(api.VDate, 2024, 2), value(api.VDate), value(api.VDate, 2024, 2, 9, 0), value(api.VDate, 0, 1, 1), value(api.VDate, 10000, 1, 1),
		value(api.VTime, 9, 7, 5), value(api.VTime, 1, 7, 0), value(api.VTime, 24, 0, 0), value(api.VMoment, 2024, 2, 9, 9, 7, 5), value(api.VMoment, 2024, 2, 9),
		value(api.VDec, 7, 0), value(api.VDec, -75, 1), value(api.VDec, 987654321012345678, 0), value(api.VDec, 70, 1), value(api.VDec, 1, 19), value(api.VMoney, 2, -5), value(api.VMoney, 10, 77), value(api.VMoney, 5, 7), value(api.VMoney, -2, 5), value(api.VDur, 9000), value(api.VDur, -1), value(api.VDur, 1<<53),
		value(api.VSpan, 2024, 2, 9, 2024, 3, 1), value(api.VSpan, 2024, 3, 1, 2024, 2, 9),
	}
}

// P1201: Render is what render.Write tells, of the language resolved.
func TestRender(t *testing.T) {
	for _, x := range []struct {
		id    string
		style int
		v     api.Value
		want  string
	}{
		{"en", 0, value(api.VDate, 2024, 2, 9), "2024-02-09 ok"},
		{"en", 2, value(api.VDate, 2024, 2, 9), "feb 9, 2024 ok"},
		{"en", 2, value(api.VDate, 2024, 3, 9), " style"},
		{"en-x", 2, value(api.VDate, 2024, 3, 9), "مارس ٩, ٢٠٢٤ ok"},
		{"en-x-y", 2, value(api.VDate, 2024, 3, 9), "مارس ۹, ۲۰۲۴ ok"},
		{"en", 1, value(api.VDate, 2024, 2, 9), " style"},
		{"en", 9, value(api.VMoment, 2024, 2, 9, 9, 7, 5), " style"},
		{"en-x", 9, value(api.VMoment, 2024, 2, 9, 9, 7, 5), "٩@٢ ok"},
		{"en-x", 11, value(api.VDate, 2024, 2, 9), " style"},
		{"en", 0, value(api.VDate, 2023, 2, 29), " range"},
		{"en", 1, value(api.VTime, 9, 7, 5), "09:07:05 ok"},
		{"en", 4, value(api.VMoney, 2, -5), "usd -0.05 ok"},
		{"en", 7, value(api.VSpan, 2024, 2, 9, 2024, 3, 1), "2024-02-09 To 2024-03-01 ok"},
		{"en", 7, value(api.VSpan, 2024, 3, 1, 2024, 2, 9), " range"},
		{"9", 10, value(api.VDec, 987654321012345678, 0), " range"},
		{"9", 8, value(api.VDec, -75, 1), "-००७\u2009 ok"},
		{"lone", 0, value(api.VDate, 2024, 2, 9), " style"},
	} {
		if got := written(speech(), x.id, x.style, x.v); got != x.want {
			t.Errorf("P1201: Render %v in style %d of %s: %q, not %q", x.v, x.style, x.id, got, x.want)
		}
	}
	for _, l := range languages() {
		for _, v := range values() {
			for _, style := range append(far(), row(-2, 16)...) {
				if got, want := written(speech(), l.Id, style, v), meantWritten(speech(), l.Id, style, v); got != want {
					t.Errorf("P1201: Render %v in style %d of %s: %q, not %q", v, style, l.Id, got, want)
				}
			}
		}
	}
}

// P6: of Render's errors BadBlob is ahead of UnknownLocale, and that of what
// render.Write tells.
func TestRenderFirstError(t *testing.T) {
	b := speech()
	for _, bad := range [][]byte{nil, b[:len(b)-1], append(b, 0)} {
		for _, id := range []string{"en", "EN", "", "fr"} {
			for _, v := range values() {
				for _, style := range []int{-1, 0, 1, 99} {
					if got := written(bad, id, style, v); got != " blob" {
						t.Errorf("P6: %v in style %d of %q: %q", v, style, id, got)
					}
				}
			}
		}
	}
	for _, id := range []string{"EN", "", "fr"} {
		for _, v := range values() {
			for _, style := range []int{-1, 0, 1, 99} {
				if got := written(b, id, style, v); got != " locale" {
					t.Errorf("P6: %v in style %d of %q: %q", v, style, id, got)
				}
			}
		}
	}
	// no such style ahead of no such value, that ahead of no such word
	none := blob.Encode([]api.Locale{{Id: "en", Parent: -1, Styles: []api.Style{style(api.VDate, spelt(0, odd))}}})
	for _, x := range []struct {
		style int
		v     api.Value
		want  string
	}{{1, value(api.VDate, 2023, 2, 29), " style"}, {0, value(api.VTime, 24, 0, 0), " style"}, {0, value(api.VDate, 2023, 2, 29), " range"}, {0, value(api.VDate, 2023, 2, 28), " style"}} {
		if got := written(none, "en", x.style, x.v); got != x.want {
			t.Errorf("P6: %v in style %d: %q, not %q", x.v, x.style, got, x.want)
		}
	}
}
