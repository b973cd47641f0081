package render_test

import (
	"fmt"
	"math"
	"testing"

	"interlocutor/api"
	"interlocutor/render"
)

// P1101, the example: a locale without any styles has none of any kind, and writes
// nothing.
func TestNoStyles(t *testing.T) {
	for _, l := range []api.Locale{{}, language(0), {Styles: []api.Style{}}, {Styles: language(0, style(api.VDate)).Styles[:0]}} {
		for kind := -2; kind < 14; kind++ {
			if places := render.Styles(l, kind); len(places) > 0 {
				t.Errorf("P1101: Styles of none, %d: %v", kind, places)
			}
		}
		for _, at := range append(extremes(), 2) {
			writes(t, l, at, value(api.VDate, 2024, 2, 29), " style")
			writes(t, l, at, api.Value{}, " style")
		}
	}
}

// P1101: the places of the styles of a kind, in their order, and of no other kind.
func TestStylesOfKind(t *testing.T) {
	l := language(0, style(api.VSpan, text("a")), style(api.VDate, text("b")), style(api.VDate, text("b")), style(api.VDur, text("d")), style(api.VSpan, text("e")), style(api.VDate, text("f")))
	wants := map[int]string{api.VDate: "[1 2 5]", api.VDur: "[3]", api.VSpan: "[0 4]"}
	for _, kind := range append(extremes(), 2, 3, 4, 5, 6, 7, 8, 9, 10, 11, 12, 99, -4, -10, math.MinInt+4) {
		want, is := wants[kind]
		if !is {
			want = "[]"
		}
		if got := fmt.Sprint(render.Styles(l, kind)); got != want {
			t.Errorf("P1101: Styles %d: %s, not %s", kind, got, want)
		}
	}
	for kind := api.VDate; kind <= api.VSpan; kind++ {
		var many []api.Style
		for range 20 {
			many = append(many, style(kind, text("x")))
		}
		all := render.Styles(language(0, many...), kind)
		for at, place := range all {
			if place != at {
				t.Errorf("P1101: Styles %d of 20: %v", kind, all)
			}
		}
		if len(all) != 20 || len(render.Styles(language(0, many...), kind+1)) > 0 || len(render.Styles(language(0, many...), kind-1)) > 0 {
			t.Errorf("P1101: Styles %d of 20: %v", kind, all)
		}
	}
}

// P1101: NoStyle, if there is no such style.
func TestNoSuchStyle(t *testing.T) {
	v := value(api.VDate, 2024, 2, 29)
	l := language(0, style(api.VDate, text("a")), style(api.VDate, text("b")), style(api.VDate, text("c")))
	for at, want := range map[int]string{-1: " style", 0: "a ok", 1: "b ok", 2: "c ok", 3: " style", 4: " style", math.MinInt: " style", math.MaxInt: " style", -3: " style"} {
		writes(t, l, at, v, want)
	}
	one := language(0, style(api.VDate, text("a")))
	one.Styles = append(one.Styles, style(api.VDate, text("behind")))[:1]
	writes(t, one, 0, v, "a ok")
	writes(t, one, 1, v, " style")
}

// P1101: NoStyle, if the style is of another kind than the value, whatever that is.
func TestStyleOfAnotherKind(t *testing.T) {
	l := language(0)
	for kind := api.VDate; kind <= api.VSpan; kind++ {
		l.Styles = append(l.Styles, style(kind, text("x")))
	}
	for _, v := range pool() {
		for at := range l.Styles {
			want := " style"
			if l.Styles[at].Kind == v.Kind {
				want = "x ok"
			}
			writes(t, l, at, v, want)
		}
	}
	for _, v := range []api.Value{{}, value(api.VNumber, 3, 1), value(api.VWord, 1), value(api.VMark), value(11), value(-4, 2024, 2, 29), value(math.MinInt), value(math.MaxInt)} {
		for at := range l.Styles {
			writes(t, l, at, v, " style")
		}
	}
}

// P1101, P6: OutOfRange, if the value is not right and there is a style of its kind;
// NoStyle, if there is none.
func TestValueNotRight(t *testing.T) {
	whole := language(0, style(api.VDate, number(9, 0)), style(api.VTime, number(9, 0)), style(api.VMoment, number(9, 0)), style(api.VDec, number(9, 0)), style(api.VMoney, number(9, 0)), style(api.VDur, number(9, 0)), style(api.VSpan, word(0, 48)))
	for _, v := range []api.Value{
		value(api.VDate), value(api.VDate, 2024, 2), value(api.VDate, 2024, 2, 29, 1), value(api.VDate, 2023, 2, 29), value(api.VDate, 0, 1, 1), value(api.VDate, 10000, 1, 1), value(api.VDate, -2024, 2, 1), value(api.VDate, math.MinInt, 1, 1),
		value(api.VTime), value(api.VTime, 24, 0, 0), value(api.VTime, 0, 60, 0), value(api.VTime, 0, 0, -1), value(api.VTime, 9, 30),
		value(api.VMoment, 2024, 2, 29, 9, 30), value(api.VMoment, 2024, 2, 30, 9, 30, 0), value(api.VMoment, 2024, 2, 29, 24, 0, 0),
		value(api.VDec, 150, 2), value(api.VDec, 0, 1), value(api.VDec, 15, 19), value(api.VDec, 15, -1), value(api.VDec, most+1, 0), value(api.VDec, -most-1, 0), value(api.VDec, math.MinInt, 0), value(api.VDec, 15), value(api.VDec),
		value(api.VMoney, -1, 5), value(api.VMoney, 1_000_000_001, 5), value(api.VMoney, 2, most+1), value(api.VMoney, 2, math.MinInt), value(api.VMoney, math.MaxInt, math.MaxInt), value(api.VMoney, 2),
		value(api.VDur, -1), value(api.VDur, longest+1), value(api.VDur, math.MinInt), value(api.VDur), value(api.VDur, 1, 2),
		value(api.VSpan, 2024, 3, 1, 2024, 2, 29), value(api.VSpan, 2024, 2, 30, 2024, 3, 1), value(api.VSpan, 2024, 2, 29),
	} {
		other := language(0)
		for at, s := range whole.Styles {
			want := " style"
			if s.Kind == v.Kind {
				want = " range"
			} else {
				other.Styles = append(other.Styles, s)
			}
			writes(t, whole, at, v, want)
		}
		for _, at := range append(extremes(), 7, 8) {
			if at < 0 || at > 6 {
				writes(t, whole, at, v, " style")
			}
			writes(t, other, at, v, " style")
		}
	}
}

// P1101: whatever a locale's Id, Parent, Rules are, the same is told.
func TestIdAndParent(t *testing.T) {
	v := value(api.VDate, 2024, 2, 9)
	l := language(1, style(api.VTime, text("x")), style(api.VDate, word(1, 1), text(" "), number(2, 2)))
	want, places := told(l, 1, v), fmt.Sprint(render.Styles(l, api.VDate))
	if want != "two ٠٩ ok" || places != "[1]" {
		t.Fatalf("P1101: %q, %s", want, places)
	}
	for _, id := range []string{"", "en", "EN?", "\xff"} {
		for _, parent := range append(extremes(), 9) {
			l.Id, l.Parent, l.Rules = id, parent, []api.Rule{{Lhs: parent}}
			if got := fmt.Sprint(render.Styles(l, api.VDate)); got != places {
				t.Errorf("P1101: Styles of %q, %d: %s", id, parent, got)
			}
			writes(t, l, 1, v, want)
		}
	}
}
