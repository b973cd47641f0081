package read_test

import (
	"math/rand"
	"slices"
	"testing"

	"interlocutor/api"
	"interlocutor/gram"
)

// P901: what texts of a language mean.
func TestOrdinary(t *testing.T) {
	for s, want := range map[string]string{
		"3/4/25":                "4,2025,3,4:1 4,2025,4,3:2",
		"13/4/25":               "4,2025,4,13:2",
		"3/3/25":                "4,2025,3,3:1",
		"5 jan 24":              "4,2005,1,24:0",
		"2024 feb 29":           "4,2024,2,29:0",
		"74 jan 1":              "4,1974,1,1:0",
		"73 jan 1":              "4,2073,1,1:0",
		"3/4":                   "4,2024,3,4:4 4,2024,4,3:4",
		"3":                     "4,2024,3,3:6 7,3,0:1",
		"30":                    "7,30,0:1",
		"jan 5":                 "4,2024,1,5:3",
		"3 days ago":            "4,2024,2,26:0",
		"feb weeks from now":    "4,2024,3,14:7",
		"1 months from now":     "4,2024,3,29:0",
		"1 years ago":           "4,2023,2,28:0",
		"fri":                   "4,2024,3,1:0",
		"9:30":                  "5,9,30,0:5",
		"9:30:15":               "5,9,30,15:5",
		"12 am":                 "5,0,0,0:5 9,3612:10 9,3624:10 9,3636:10",
		"9:30 pm":               "5,21,30,0:6",
		"1.50":                  "7,15,1:1",
		"jan.5":                 "",
		"1,234":                 "7,1234,0:1",
		"-1,234":                "7,-1234,0:2 7,1234,0:3",
		"1,234,567":             "7,1234567,0:1",
		"-7":                    "7,-7,0:2",
		"$5":                    "8,2,500:0",
		"5 usd":                 "8,2,500:3",
		"$-1.5":                 "8,2,-150:1",
		"jpy 1.5":               "",
		"2h":                    "9,7200:0",
		"2h 30m":                "9,9000:1",
		"1h 1h 1h":              "9,10800:2",
		"1a":                    "9,1:0 9,2:0 9,3:0",
		"1a 1a":                 "9,2:1 9,3:1 9,4:1 9,5:1 9,6:1",
		"fri 9:30":              "6,2024,3,1,9,30,0:0",
		"3/4 9:30":              "6,2024,3,4,9,30,0:4 6,2024,4,3,9,30,0:4",
		"jan 5 to fri":          "10,2024,1,5,2024,3,1:5",
		"fri - jan 5":           "",
		"3-4":                   "10,2024,3,3,2024,4,4:14",
		"m":                     "4,2024,3,4:0 9,3600:9",
		"a":                     "9,1:9 9,4:9 9,9:9",
		"\uff13\uff0f\uff14":    "4,2024,3,4:4 4,2024,4,3:4",
		"\u0663/\u0664":         "4,2024,3,4:4 4,2024,4,3:4",
		"FEB weeks  FROM\tNOW ": "4,2024,3,14:7",
		"x":                     "",
		"7x":                    "",
		"7\xff":                 "",
	} {
		expect(t, speech(), s, want)
	}
}

// P901: a text of no signs.
func TestNothing(t *testing.T) {
	for _, s := range []string{"", " ", "     ", "\t\u00a0"} {
		expect(t, speech(), s, "")
		expect(t, having(nil), s, "")
	}
	for _, s := range []string{"7", "a", "-", " fri "} {
		expect(t, having(nil, speech().Lex...), s, "")
	}
}

// P901: blanks at a text's ends and between its signs are nothing; a text may end at
// each place that has nothing but blanks behind it, and at no other one.
func TestBlanks(t *testing.T) {
	for _, s := range []string{"3 days ago", " 3 days ago", "3 days ago ", "    3   days     ago   ", "3days ago", "\t3\u00a0days\u3000ago\u2003"} {
		expect(t, speech(), s, "4,2024,2,26:0")
	}
	for _, s := range []string{"3 days ago x", "x 3 days ago", "3 days ago 4", "3 days ago.", "3 da ys ago", "fri fri", "fri  \uff0f "} {
		expect(t, speech(), s, "")
	}
	// the word has a blank of its own
	expect(t, speech(), "1 days from now", "4,2024,3,1:0")
	expect(t, speech(), "1 days from  now", "")
	// what ends ahead of the text's end is not told, though symbol 0 is there
	l := having(rules(does(0, 1, api.AWhole, at(0), num), does(0, 2, api.AWhole, at(1), num, num)))
	expect(t, l, "7", "7,7,0:1")
	expect(t, l, " 7  ", "7,7,0:1")
	expect(t, l, "7 8", "7,8,0:2")
	expect(t, l, "7  8   ", "7,8,0:2")
	expect(t, l, "7 8 9", "")
}

// P901, T1: each value once, with what its cheapest derivation costs, wherever that
// one stands among the others.
func TestCheapest(t *testing.T) {
	ways := rules(rule(0, 2, 1), does(1, 1, api.AWhole, at(0), num), does(0, 7, api.AWhole, at(0), num), rule(0, 0, 2), rule(2, 0, 3), does(3, 9, api.AWhole, at(0), num), does(0, 7, api.AWhole, at(0), num))
	for turn := range ways {
		l := having(append(slices.Clone(ways[turn:]), ways[:turn]...))
		expect(t, l, "7", "7,7,0:3")
		slices.Reverse(l.Rules)
		expect(t, l, "7", "7,7,0:3")
	}
	// the cheapest is one of other parts, which are not asked for
	l := having(rules(does(0, 0, api.AWhole, at(2), 1, 2, num), rule(1, 5, month), rule(1, 0, unit), rule(2, 4, month), rule(2, 9, unit), rule(1, 50, month)), is("a", month, 1), is("a a", month, 1), is("a", unit, 1))
	expect(t, l, "a a 7", "7,7,0:4")
	expect(t, l, "a a a 7", "7,7,0:4")
	expect(t, l, "a a a a 7", "7,7,0:9")
	l.Rules = rules(does(0, 0, api.AWhole, at(2), 1, 2, num), rule(1, 50, month), rule(1, 1, currency), rule(2, 4, month), rule(2, 4, currency))
	l.Lex[1] = is("a a", currency, 1)
	expect(t, l, "a a 7", "7,7,0:54")
	expect(t, l, "a a a 7", "7,7,0:5") // behind the longer one, which is found later
	// the same sum by other cuts
	l = having(rules(does(0, 0, api.ADur, at(0, 1), num, month), does(0, 1, api.ASum, at(0, 1), 0, 0), does(0, 0, api.ADur, at(0, 2), num, 3, 4), rule(3, 0, month), rule(3, 3, num), rule(4, 0, month)), is("a", month, 1))
	expect(t, l, "1a", "9,1:0")
	expect(t, l, "1a1a", "9,2:1")
	expect(t, l, "1a1a1a", "9,3:2")
	expect(t, l, "1aa", "9,1:0")
	expect(t, l, "11a", "9,11:0")
	expect(t, l, "1 1a", "9,1:3")
	expect(t, l, "1 1a 1aa", "9,2:4")
}

// P901: a rule that is there twice, once dearer, the dearer one first and last.
func TestTwice(t *testing.T) {
	cheap, dear := does(0, 3, api.AWhole, at(0), num), does(0, 8, api.AWhole, at(0), num)
	expect(t, having(rules(cheap, dear)), "7", "7,7,0:3")
	expect(t, having(rules(dear, cheap)), "7", "7,7,0:3")
	expect(t, having(rules(cheap, cheap)), "7", "7,7,0:3")
	cheap, dear = does(0, 0, api.AWhole, at(1), month, num), does(0, 100, api.AWhole, at(1), month, num)
	expect(t, having(rules(dear, cheap, dear), is("a", month, 1)), "a7", "7,7,0:0")
	expect(t, having(rules(dear), is("a", month, 1)), "a7", "7,7,0:100")
}

// P901: rules of one symbol, of all symbols, whatever their order is.
func TestAlone(t *testing.T) {
	var chain []api.Rule
	for sym := range 19 {
		chain = append(chain, rule(sym, sym, sym+1))
	}
	chain = append(chain, does(19, 0, api.AWhole, at(0), num))
	for range 2 {
		expect(t, having(chain), "7", "7,7,0:171")
		expect(t, having(append(chain, rule(3, 1, 17))), "7", "7,7,0:39")
		expect(t, having(append(chain, does(3, 1, api.AWhole, at(0), 17))), "7", "7,7,0:171")
		slices.Reverse(chain)
	}
	// rules of one symbol of what rules of several make, and the other way round
	l := having(rules(rule(0, 1, 5), does(5, 1, api.ANeg, at(0), 9), rule(9, 1, 2), pick(2, 1, 1, minus, 0), does(5, 1, api.AWhole, at(0), num)))
	expect(t, l, "7", "7,7,0:2")
	expect(t, l, "-7", "7,-7,0:6")
	expect(t, l, "--7", "7,7,0:10")
}

// P901: of what an action makes nothing there is no derivation, nor of what has it
// in it.
func TestNothingMade(t *testing.T) {
	expect(t, speech(), "2023 feb 29", "")
	expect(t, speech(), "2024 feb 30", "")
	expect(t, speech(), "30/2/24 9:30", "")
	expect(t, speech(), "25:00", "")
	expect(t, speech(), "13 pm", "")
	expect(t, speech(), "1,23", "")
	expect(t, speech(), "$1.505", "")
	expect(t, speech(), "9000 years from now", "")
	expect(t, speech(), "12 dec 31", "4,2012,12,31:0")
	expect(t, speech(), "9999 dec 31 to fri", "")
	// a dearer one may be there in its stead
	l := having(rules(does(0, 0, api.AThis, at(0, 2), num, slash, num), does(0, 9, api.AThis, at(2, 0), num, slash, num), does(0, 1, api.ANeg, at(0), 1), rule(1, 0, num)))
	expect(t, l, "3/4", "4,2024,3,4:0 4,2024,4,3:9")
	expect(t, l, "4/4", "4,2024,4,4:0")
	expect(t, l, "13/4", "4,2024,4,13:9")
	expect(t, l, "7", "")
}

// P901: values of signs are not told; those beside them are.
func TestNotTold(t *testing.T) {
	l := having(rules(rule(0, 0, num), rule(0, 0, month), rule(0, 0, slash), rule(0, 0, 1), rule(1, 0, num), pick(0, 0, 1, slash, 1)), is("jan", month, 1))
	for _, s := range []string{"7", "jan", "/", "/7"} {
		expect(t, l, s, "")
	}
	l.Rules = append(l.Rules, does(0, 4, api.AWhole, at(0), num), does(1, 5, api.AThis, at(0, 0), num), does(0, 0, api.ANext, at(1), slash, 0))
	expect(t, l, "7", "4,2024,7,7:5 7,7,0:4")
	expect(t, l, "jan", "")
	expect(t, l, "/jan", "4,2024,3,5:0")
	expect(t, l, "/7", "4,2024,7,7:5")
}

// P901: signs that are two words at once, of two classes, of one, of two lengths.
func TestWordsAtOnce(t *testing.T) {
	l := having(rules(does(0, 1, api.AThis, at(0, 1), month, num), does(0, 2, api.ADur, at(1, 0), long, num), does(0, 3, api.AThis, at(0, 2), month, until, num)),
		is("m", month, 3), is("m", month, 5), is("m", long, 60), is("m", long, 60), is("m-", month, 7), is("-", until, 1), is("3", month, 12))
	expect(t, l, "m 4", "4,2024,3,4:1 4,2024,5,4:1 9,240:2")
	expect(t, l, "m-4", "4,2024,3,4:3 4,2024,5,4:3 4,2024,7,4:1")
	expect(t, l, "m - 4", "4,2024,3,4:3 4,2024,5,4:3")
	expect(t, l, "34", "4,2024,12,4:1")
	expect(t, l, "3 4", "4,2024,12,4:1")
}

// P901, T3: readings are in rank.Cmp's order, whatever they cost and whichever rule
// makes them.
func TestOrder(t *testing.T) {
	list := rules(
		does(0, 9, api.AThis, at(0, 1), num, num, num, num), does(0, 8, api.AThis, at(1, 0), num, num, num, num), does(0, 3, api.ATime, at(0, 1), num, num, num, num), does(0, 3, api.ATime, at(0, 1, 2), num, num, num, num),
		does(0, 0, api.AMoment, at(1, 0), 1, 2), does(0, 7, api.APoint, at(0, 1), num, num, num, num), does(0, 6, api.AWhole, at(0), num, num, num, num), does(0, 6, api.ANeg, at(0), 3), does(3, 0, api.AWhole, at(1), num, num, num, num),
		does(0, 5, api.AMoney, at(0, 1), month, 4), does(4, 0, api.AWhole, at(1), num, num, num), does(0, 4, api.ADur, at(3, 0), month, num, num, num), does(0, 1, api.ASpan, at(0, 1), 2, 2),
		does(1, 0, api.ATime, at(0, 1), num, num), does(2, 0, api.AThis, at(0, 1), num, num), does(2, 0, api.AThis, at(1, 0), num, num), does(1, 0, api.ATime, at(1, 0), num, num))
	words := []api.Entry{is("2", month, 12), is("2", month, 3)}
	want := "4,2024,2,3:9 4,2024,3,2:8 5,2,3,0:3 5,2,3,4:3 6,2024,4,5,2,3,0:0 6,2024,4,5,3,2,0:0 6,2024,5,4,2,3,0:0 6,2024,5,4,3,2,0:0 7,-3,0:6 7,2,0:6 7,23,1:7 8,3,4000:5 8,12,400:5 9,15:4 9,60:4 10,2024,2,3,2024,4,5:1 10,2024,2,3,2024,5,4:1 10,2024,3,2,2024,4,5:1 10,2024,3,2,2024,5,4:1"
	for turn := range list {
		expect(t, having(append(slices.Clone(list[turn:]), list[:turn]...), words...), "2 3 4 5", want)
		slices.Reverse(words)
	}
}

// P902, T4: texts that are folded alike have the same readings.
func TestFoldedAlike(t *testing.T) {
	for s, other := range map[string]string{"3/4/25": "\uff13\uff0f\u0664\uff0f\u09685", "2 weeks ago": "\u06f2\tWEEKS\u2009Ago", "-7": "\u22127", "3-4": "\u0663\u20134", "jan 5 to fri": "Jan\u30005 TO FRI"} {
		got, want := told(speech(), other), told(speech(), s)
		if got != want || got == "" {
			t.Errorf("P902: %q: %s, %q: %s", other, got, s, want)
		}
	}
}

// varied is speech with other costs, and rules and words that chance adds.
func varied(by *rand.Rand) api.Locale {
	l := speech()
	for at := range l.Rules {
		if by.Intn(3) == 0 {
			l.Rules[at].Cost = by.Intn(12)
		}
	}
	parts := []int{0, 1, 2, 3, 4, 5, 6, 7, num, num, month, unit, sign, currency, long, weekday, minus, slash, comma}
	for range by.Intn(12) {
		r := api.Rule{Lhs: by.Intn(8), Act: api.Act{Op: by.Intn(16)}, Cost: by.Intn(12)}
		for range 1 + by.Intn(3) {
			r.Rhs = append(r.Rhs, parts[by.Intn(len(parts))])
		}
		for range 1 + by.Intn(3) {
			r.Act.P = append(r.Act.P, by.Intn(len(r.Rhs)))
		}
		if by.Intn(2) == 0 {
			r.Act = api.Act{Op: api.APick, P: r.Act.P[:1]}
		}
		if gram.Check(append(l.Rules, r)) {
			l.Rules = append(l.Rules, r)
		}
	}
	by.Shuffle(len(l.Rules), func(i, j int) { l.Rules[i], l.Rules[j] = l.Rules[j], l.Rules[i] })
	if by.Intn(3) == 0 {
		l.Lex = append(l.Lex, alike("b", -2-by.Intn(8), by.Intn(9)-4, []int{2, 9, 30, 70, 198, 205}[by.Intn(6)])...)
	}
	return l
}

// P901, P902, T1, T3: the readings are the values of all derivations, each made by
// itself, no others.
func TestByChance(t *testing.T) {
	by := rand.New(rand.NewSource(901))
	pieces := []string{
		"1", "2", "3", "12", "30", "125", "2024", "/", "-", ".", ",", ":", " ", "  ", "jan", "am", "days", "ago", "usd", "h", "m", "a", "b", "b", "to", "fri", "$", "x",
		"3/4", "3/4/25", "24 feb 29", "jan 5", "2 days ago", "9:30", "9 pm", "1.5", "1,234", "$5", "2h", "1a", "m", "b", "1b", "b b", "7",
	}
	some, over := 0, 0
	for range 5000 {
		s := ""
		for range 1 + by.Intn(4) {
			s += pieces[by.Intn(len(pieces))]
		}
		l := varied(by)
		ref := leap()
		if by.Intn(2) == 0 {
			ref = api.Moment{Y: []int{1, 40, 1999, 9999}[by.Intn(4)], M: 1 + by.Intn(12), D: 1 + by.Intn(28)}
		}
		want, is := meant(l, s, ref)
		if !is {
			continue
		}
		if got := answer(readAll(l, s, ref)); got != want {
			t.Fatalf("P901: %q: %s, not %s, by %v, %v", s, got, want, l.Rules, l.Lex)
		}
		if want == "over" {
			over++
		} else if want != "" {
			some++
		}
	}
	if some < 900 || over < 40 {
		t.Errorf("of %d there are readings, of %d too many", some, over)
	}
}
