package render

import (
	"strconv"
	"strings"

	"interlocutor/dec"
)

const (
	minus  = "-"
	nought = "0"
	point  = "."
)

// numeral is a number as it is written: its digits, none if it is nothing, and a
// sign ahead of them, which 0 may have, too.
type numeral struct{ sign, digits string }

func numeralOf(text string) numeral {
	if digits, isBelow := strings.CutPrefix(text, minus); isBelow {
		return numeral{minus, digits}
	}
	return numeral{digits: text}
}

// split tells what stands ahead of a decimal's point, and what behind it.
func split(m, scale int) (whole, part numeral) {
	ahead, behind, _ := strings.Cut(dec.Text(m, scale), point)
	return numeralOf(ahead), numeralOf(behind)
}

// number tells which number it is. The nought makes 0 of nothing.
func (n numeral) number() int {
	number, _ := strconv.Atoi(n.sign + nought + n.digits)
	return number
}

// ahead writes it with noughts ahead of its digits, up to a width.
func (n numeral) ahead(width int) string { return n.sign + n.noughts(width) + n.digits }

// behind writes it with noughts behind its digits, up to a width.
func (n numeral) behind(width int) string { return n.sign + n.digits + n.noughts(width) }

// alone writes it, whatever the width is.
func (n numeral) alone(int) string { return n.sign + n.digits }

// noughts tells what its digits lack. No more of them are made than are too many
// anyway: a width may be any number.
func (n numeral) noughts(width int) string {
	have := len(n.digits)
	return strings.Repeat(nought, max(have, min(width, mostBytes+1))-have)
}
