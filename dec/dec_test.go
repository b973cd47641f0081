package dec_test

import (
	"math"
	"math/big"
	"strconv"
	"strings"
	"testing"

	"interlocutor/dec"
)

const most = 1_000_000_000_000_000_000 - 1

// tens is 10 to the power of n, apart from the program.
func tens(n int) *big.Int {
	return new(big.Int).Exp(big.NewInt(10), big.NewInt(int64(n)), nil)
}

// number is what a decimal is.
func number(m, scale int) *big.Rat {
	return new(big.Rat).SetFrac(big.NewInt(int64(m)), tens(scale))
}

// edges holds what m may be: small ones, those next to powers of ten and to
// their multiples, those next to the bounds.
func edges() []int {
	up := []int{0, 1, 2, 5, 9, 15, 42, 105, 150, 1234567890, 123456789012345678, most - 9, most - 10, most - 99999999}
	for n, p := 0, 1; n < 18; n, p = n+1, p*10 {
		up = append(up, p, p+1, p-1, 9*p, 15*p/10, 10*(p-1)+9)
	}
	list := []int{}
	for _, m := range up {
		list = append(list, m, -m)
	}
	return list
}

// far holds numbers that no decimal is made of.
func far() []int {
	return []int{most + 1, most + 2, -most - 1, -most - 2, 2 * (most + 1), 1 << 62, -1 << 62, math.MaxInt - 1, math.MaxInt, math.MinInt + 1, math.MinInt}
}

// noScales holds what neither a scale nor a number of digits may be.
func noScales() []int {
	return []int{-1, -2, -18, 19, 20, 36, 63, 64, 1 << 32, -1 << 32, 1<<32 + 1, math.MaxInt, math.MinInt}
}

// P201: the document's example, and ones by hand.
func TestNormKnown(t *testing.T) {
	for _, x := range []struct{ m, scale, n, other int }{
		{150, 2, 15, 1},
		{0, 0, 0, 0},
		{0, 1, 0, 0},
		{0, 18, 0, 0},
		{100, 0, 100, 0},
		{100, 1, 10, 0},
		{100, 2, 1, 0},
		{100, 3, 1, 1},
		{-100, 3, -1, 1},
		{101, 3, 101, 3},
		{-150, 18, -15, 17},
		{most, 18, most, 18},
		{-most, 18, -most, 18},
		{most - 9, 18, (most - 9) / 10, 17},
		{100000000000000000, 18, 1, 1},
		{-100000000000000000, 17, -1, 0},
		{-100000000000000000, 16, -10, 0},
	} {
		if m, scale := dec.Norm(x.m, x.scale); m != x.n || scale != x.other {
			t.Errorf("P201: Norm(%d, %d): %d, %d", x.m, x.scale, m, scale)
		}
	}
}

// P201: Norm answers the same number, and no 0 ends it behind the point.
func TestNormSame(t *testing.T) {
	list := edges()
	for m := -2000; m <= 2000; m++ {
		list = append(list, m)
	}
	for _, m := range list {
		for scale := 0; scale <= 18; scale++ {
			n, other := dec.Norm(m, scale)
			if other < 0 || other > scale || number(n, other).Cmp(number(m, scale)) != 0 {
				t.Fatalf("P201: Norm(%d, %d): %d, %d: another number", m, scale, n, other)
			}
			if other > 0 && n%10 == 0 {
				t.Fatalf("P201: Norm(%d, %d): %d, %d: ends with a 0", m, scale, n, other)
			}
			if a, s := dec.Norm(n, other); a != n || s != other {
				t.Fatalf("P201: Norm(%d, %d): %d, %d: normed it is another one", n, other, a, s)
			}
		}
	}
}

// P201: Join by hand, each reason of a false next to what is right.
func TestJoinKnown(t *testing.T) {
	for _, x := range []struct {
		whole, part, digits, m, scale int
		is                            bool
	}{
		{1, 5, 1, 15, 1, true},
		{1, 50, 2, 15, 1, true},
		{1, 5, 2, 105, 2, true},
		{12, 0, 3, 12, 0, true},
		{120, 0, 0, 120, 0, true},
		{0, 0, 0, 0, 0, true},
		{0, 0, 18, 0, 0, true},
		{0, 1, 18, 1, 18, true},
		{0, most, 18, most, 18, true},
		{most, 0, 0, most, 0, true},
		{-1, 0, 0, 0, 0, false},
		{-1, 1, 2, 0, 0, false},
		{0, -1, 0, 0, 0, false},
		{5, -1, 2, 0, 0, false},
		{0, 0, -1, 0, 0, false},
		{7, 0, -1, 0, 0, false},
		{0, 0, 19, 0, 0, false},
		{0, 5, 19, 0, 0, false},
		{0, most + 1, 18, 0, 0, false},
		{3, 1, 0, 0, 0, false},
		{3, 9, 1, 39, 1, true},
		{3, 10, 1, 0, 0, false},
		{1, 0, 18, 0, 0, false}, // 1 would do, but not with its eighteen zeros
		{1, 0, 17, 1, 0, true},
		{9, 99999999999999999, 17, most, 17, true},
		{10, 0, 17, 0, 0, false},
		{99999999999999999, 9, 1, most, 1, true},
		{100000000000000000, 0, 1, 0, 0, false},
		{most + 1, 0, 0, 0, 0, false},
		{1844674407370955162, 0, 1, 0, 0, false}, // wrapped round, ten of it are 4
		{math.MaxInt, 0, 18, 0, 0, false},
	} {
		if m, scale, is := dec.Join(x.whole, x.part, x.digits); m != x.m || scale != x.scale || is != x.is {
			t.Errorf("P201: Join(%d, %d, %d): %d, %d, %v", x.whole, x.part, x.digits, m, scale, is)
		}
	}
}

// joined is what Join should answer, by the words of the promise.
func joined(whole, part, digits int) (*big.Rat, bool) {
	if whole < 0 || part < 0 || digits < 0 || digits > 18 {
		return nil, false
	}
	p := big.NewInt(int64(part))
	if p.Cmp(tens(digits)) >= 0 {
		return nil, false
	}
	m := new(big.Int).Mul(big.NewInt(int64(whole)), tens(digits))
	if m.Add(m, p); m.Cmp(tens(18)) >= 0 {
		return nil, false
	}
	return new(big.Rat).SetFrac(m, tens(digits)), true
}

// P201: Join of all edges, of far and wrong numbers (P1, P9) against the words.
func TestJoinAll(t *testing.T) {
	list := append(edges(), far()...)
	for digits := -2; digits <= 21; digits++ {
		for _, whole := range list {
			for _, part := range list {
				checkJoin(t, whole, part, digits)
			}
		}
	}
	for _, digits := range noScales() {
		for _, whole := range list {
			checkJoin(t, whole, 0, digits)
			checkJoin(t, 0, whole, digits)
		}
	}
}

func checkJoin(t *testing.T, whole, part, digits int) {
	t.Helper()
	m, scale, is := dec.Join(whole, part, digits)
	want, right := joined(whole, part, digits)
	if is != right || !is && (m != 0 || scale != 0) {
		t.Fatalf("P201: Join(%d, %d, %d): %d, %d, %v", whole, part, digits, m, scale, is)
	}
	if !is {
		return
	}
	if m < 0 || m > most || scale < 0 || scale > digits || number(m, scale).Cmp(want) != 0 {
		t.Fatalf("P201: Join(%d, %d, %d): %d, %d", whole, part, digits, m, scale)
	}
	if scale > 0 && m%10 == 0 {
		t.Fatalf("P201: Join(%d, %d, %d): %d, %d: not normed", whole, part, digits, m, scale)
	}
}

// P201: Scaled by hand.
func TestScaledKnown(t *testing.T) {
	for _, x := range []struct {
		m, scale, to, n int
		is              bool
	}{
		{15, 1, 2, 150, true},
		{15, 1, 1, 15, true},
		{15, 1, 0, 0, false},
		{150, 1, 0, 15, true},
		{-150, 1, 0, -15, true},
		{-151, 1, 0, 0, false},
		{-1, 0, 2, -100, true},
		{0, 0, 18, 0, true},
		{0, 18, 0, 0, true},
		{1, 0, 17, 100000000000000000, true},
		{1, 0, 18, 0, false},
		{-9, 0, 17, -900000000000000000, true},
		{-10, 0, 17, 0, false},
		{most / 10, 0, 1, most - 9, true},
		{most/10 + 1, 0, 1, 0, false},
		{-most / 10, 0, 1, -most + 9, true},
		{-most/10 - 1, 0, 1, 0, false},
		{most, 0, 0, most, true},
		{most, 18, 18, most, true},
		{-most, 18, 18, -most, true},
		{most, 18, 17, 0, false},
		{most - 9, 18, 17, most / 10, true},
		{100000000000000000, 18, 1, 1, true},
		{100000000000000000, 18, 0, 0, false},
	} {
		if n, is := dec.Scaled(x.m, x.scale, x.to); n != x.n || is != x.is {
			t.Errorf("P201: Scaled(%d, %d, %d): %d, %v", x.m, x.scale, x.to, n, is)
		}
	}
}

// P201: Scaled of all edges, from each scale to each other one.
func TestScaledAll(t *testing.T) {
	for _, m := range edges() {
		for scale := 0; scale <= 18; scale++ {
			for to := 0; to <= 18; to++ {
				n, is := dec.Scaled(m, scale, to)
				want := number(m, scale)
				want.Mul(want, new(big.Rat).SetInt(tens(to)))
				right := want.IsInt() && new(big.Int).Abs(want.Num()).Cmp(tens(18)) < 0
				if is != right || !is && n != 0 || is && want.Num().Cmp(big.NewInt(int64(n))) != 0 {
					t.Fatalf("P201: Scaled(%d, %d, %d): %d, %v, not %s", m, scale, to, n, is, want)
				}
			}
		}
	}
}

// P202: Text by hand.
func TestTextKnown(t *testing.T) {
	for _, x := range []struct {
		m, scale int
		want     string
	}{
		{0, 0, "0"},
		{0, 1, "0.0"},
		{0, 18, "0.000000000000000000"},
		{7, 0, "7"},
		{-7, 0, "-7"},
		{150, 0, "150"},
		{150, 1, "15.0"},
		{150, 2, "1.50"},
		{150, 3, "0.150"},
		{150, 4, "0.0150"},
		{-150, 4, "-0.0150"},
		{-150, 2, "-1.50"},
		{1005, 3, "1.005"},
		{-1, 18, "-0.000000000000000001"},
		{most, 0, "999999999999999999"},
		{-most, 0, "-999999999999999999"},
		{most, 1, "99999999999999999.9"},
		{-most, 17, "-9.99999999999999999"},
		{most, 18, "0.999999999999999999"},
		{100000000000000000, 17, "1.00000000000000000"},
		{100000000000000000, 18, "0.100000000000000000"},
	} {
		if got := dec.Text(x.m, x.scale); got != x.want {
			t.Errorf("P202: Text(%d, %d): %s, not %s", x.m, x.scale, got, x.want)
		}
	}
}

// P202: Text is what the library writes; T2: read by its digits and joined, it is the number that it was.
func TestTextThereAndBack(t *testing.T) {
	list := edges()
	for m := -2000; m <= 2000; m++ {
		list = append(list, m)
	}
	for _, m := range list {
		for scale := 0; scale <= 18; scale++ {
			text := dec.Text(m, scale)
			if want := number(m, scale).FloatString(scale); text != want {
				t.Fatalf("P202: Text(%d, %d): %s, not %s", m, scale, text, want)
			}
			a, s, is := joinText(t, strings.TrimPrefix(text, "-"))
			if m < 0 {
				a = -a
			}
			if n, other := dec.Norm(m, scale); !is || a != n || s != other {
				t.Fatalf("T2: %s: %d, %d, %v, not %d, %d", text, a, s, is, n, other)
			}
		}
	}
}

func joinText(t *testing.T, text string) (int, int, bool) {
	t.Helper()
	ahead, behind, point := strings.Cut(text, ".")
	whole, err := strconv.Atoi(ahead)
	if err != nil {
		t.Fatalf("P202: %s: %v", text, err)
	}
	if !point {
		return dec.Join(whole, 0, 0)
	}
	part, err := strconv.Atoi(behind)
	if err != nil {
		t.Fatalf("P202: %s: %v", text, err)
	}
	return dec.Join(whole, part, len(behind))
}

// P202: Cmp by hand, both ways round.
func TestCmpKnown(t *testing.T) {
	for _, x := range []struct{ m, scale, n, other, want int }{
		{0, 0, 0, 0, 0},
		{0, 0, 0, 18, 0},
		{15, 1, 150, 2, 0},
		{-15, 1, -150, 2, 0},
		{1, 0, 2, 0, -1},
		{1, 0, 2, 1, 1},
		{-1, 0, -2, 1, -1},
		{-5, 1, 5, 1, -1},
		{-5, 1, 0, 0, -1},
		{-5, 1, -4, 1, -1},
		{-15, 1, -1, 0, -1},
		{1, 18, 0, 0, 1},
		{-1, 18, 0, 0, -1},
		{-1, 18, 1, 18, -1},
		{most, 18, 1, 0, -1},
		{-most, 18, -1, 0, 1},
		{most, 0, most, 18, 1},
		{most, 0, most, 0, 0},
		{-most, 18, -most, 0, 1},
		{most, 0, -most, 0, 1},
		{most, 17, most - 1, 17, 1},
		{10, 0, 1, 18, 1}, // wrapped round, 10 would be less
	} {
		if got := dec.Cmp(x.m, x.scale, x.n, x.other); got != x.want {
			t.Errorf("P202: Cmp(%d, %d, %d, %d): %d", x.m, x.scale, x.n, x.other, got)
		}
		if got := dec.Cmp(x.n, x.other, x.m, x.scale); got != -x.want {
			t.Errorf("P202: Cmp(%d, %d, %d, %d): %d", x.n, x.other, x.m, x.scale, got)
		}
	}
}

// P202: Cmp of the edges, two and two, at scales that are far and near.
func TestCmpAll(t *testing.T) {
	list := edges()
	for _, scale := range []int{0, 1, 2, 9, 17, 18} {
		for _, other := range []int{0, 1, 3, 10, 17, 18} {
			for _, m := range list {
				a := number(m, scale)
				for _, n := range list {
					if got, want := dec.Cmp(m, scale, n, other), a.Cmp(number(n, other)); got != want {
						t.Fatalf("P202: Cmp(%d, %d, %d, %d): %d, not %d", m, scale, n, other, got, want)
					}
				}
			}
		}
	}
}

// P1, P4, P9: what is no decimal is refused; nothing panics.
func TestWrong(t *testing.T) {
	for _, m := range far() {
		for scale := 0; scale <= 18; scale++ {
			refused(t, m, scale)
		}
		for _, scale := range noScales() {
			refused(t, m, scale)
		}
	}
	for _, scale := range noScales() {
		for _, m := range edges() {
			refused(t, m, scale)
			if n, is := dec.Scaled(m, 2, scale); n != 0 || is {
				t.Fatalf("P9: Scaled(%d, 2, %d): %d, %v", m, scale, n, is)
			}
		}
	}
}

// refused checks that nothing is told of m and scale, which are no decimal.
func refused(t *testing.T, m, scale int) {
	t.Helper()
	if n, other := dec.Norm(m, scale); n != 0 || other != 0 {
		t.Fatalf("P9: Norm(%d, %d): %d, %d", m, scale, n, other)
	}
	for _, to := range []int{0, 1, 17, 18, scale} {
		if n, is := dec.Scaled(m, scale, to); n != 0 || is {
			t.Fatalf("P9: Scaled(%d, %d, %d): %d, %v", m, scale, to, n, is)
		}
	}
	if text := dec.Text(m, scale); text != "" {
		t.Fatalf("P9: Text(%d, %d): %s", m, scale, text)
	}
	if dec.Cmp(m, scale, 1, 0) != 0 || dec.Cmp(1, 0, m, scale) != 0 || dec.Cmp(m, scale, m, scale) != 0 {
		t.Fatalf("P9: Cmp of %d, %d", m, scale)
	}
}
