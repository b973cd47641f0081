package dec

import "interlocutor/api"

const (
	mostScale = api.MaxDigits
	most      = 1_000_000_000_000_000_000 - 1 // m is from -most to most
)

// decimal is m, of which scale digits stand behind the point.
type decimal struct{ m, scale int }

func (d decimal) isRight() bool {
	return within(d.m, -most, most) && within(d.scale, 0, mostScale)
}

// longer writes the same number with one 0 more behind the point. If that would
// be no decimal, it says so, and d stays.
func (d *decimal) longer() bool {
	if d.scale == mostScale || !within(d.m, -most/10, most/10) {
		return false
	}
	d.m, d.scale = d.m*10, d.scale+1
	return true
}

// shorter writes the same number with one digit less behind the point. If none
// stands there, or it is not 0, it says so, and d stays.
func (d *decimal) shorter() bool {
	if d.scale == 0 || d.m%10 != 0 {
		return false
	}
	d.m, d.scale = d.m/10, d.scale-1
	return true
}

// strip takes away the zeros that end d behind the point.
func (d *decimal) strip() {
again:
	if d.shorter() {
		goto again
	}
}

// reach writes the same number with so many digits behind the point, or says
// that it can't. It goes a digit at a time, and no step leaves the decimals: to
// may be any number.
func (d *decimal) reach(to int) bool {
	step := d.longer
	if to < d.scale {
		step = d.shorter
	}
again:
	if d.scale == to {
		return true
	}
	if step() {
		goto again
	}
	return false
}

// split tells what stands ahead of the point, and what behind it, in 10^-18: of
// two decimals these fit an int, where what they are in 10^-18 would not. Both
// have d's sign, so that they are in order below 0, too.
func (d decimal) split() (whole, part int) {
	one := power(d.scale)
	return d.m / one, d.m % one * power(mostScale-d.scale)
}

// power tells 10 to the power of n, 0 to 18.
func power(n int) int {
	p := 1
	for range n {
		p *= 10
	}
	return p
}

func within(n, low, high int) bool { return low <= n && n <= high }
