package act

import (
	"errors"
	"slices"

	"interlocutor/api"
	"interlocutor/civil"
	"interlocutor/dec"
)

// What ARel's words stand for, and how many of them it goes at most.
const (
	byDays = iota + 1
	byWeeks
	byMonths
	byYears
	mostSteps = 1_000_000
)

const week = 7 // days

// Numbers that are written in groups: each but the first has as many digits.
const (
	groupDigits = 3
	groupSize   = 1000
)

// A currency's rest by this is how many digits it has behind the point.
const currencyDigits = 10

// errNone is what stops an action of which nothing comes.
var errNone = errors.New("none")

// unlessNone tells what the work answers, or nothing if it panics: no panic leaves
// a face, whatever it is.
func unlessNone(work func() (api.Value, bool)) (v api.Value, is bool) {
	defer func() { _ = recover() }()
	return work()
}

// need stops the action if what it can't do without is not so.
func need(is bool) {
	if !is {
		panic(errNone)
	}
}

// value makes a value of numbers that nobody else has.
func value(kind int, f ...int) api.Value { return api.Value{Kind: kind, F: f} }

// deed is an action at work: it takes one child behind the other, by places, which
// holds those that are not taken yet.
type deed struct {
	op     int
	parts  []api.Value
	places []int
	ref    api.Moment
}

// do makes the value, of all children.
func (d *deed) do() (api.Value, bool) {
	ways := [...]func() api.Value{
		api.APick:   d.pick,
		api.ADate:   d.date,
		api.AThis:   d.dateOfThisYear,
		api.ATime:   d.time,
		api.AHalf:   d.timeOfHalf,
		api.AMoment: d.moment,
		api.ARel:    d.dateFromHere,
		api.ANext:   d.nextWeekday,
		api.AWhole:  d.whole,
		api.APoint:  d.point,
		api.AGroup:  d.groups,
		api.ANeg:    d.negated,
		api.AMoney:  d.money,
		api.ADur:    d.duration,
		api.ASum:    d.sum,
		api.ASpan:   d.span,
	}
	need(within(d.op, 0, len(ways)-1))
	v := ways[d.op]()
	need(len(d.places) == 0)
	if d.op != api.APick && !Right(v) {
		return api.Value{}, false
	}
	return v, true
}

// first tells the child that is taken next.
func (d *deed) first() api.Value {
	need(len(d.places) > 0 && within(d.places[0], 0, len(d.parts)-1))
	return d.parts[d.places[0]]
}

func (d *deed) next() api.Value {
	v := d.first()
	d.places = d.places[1:]
	return v
}

// take tells what the next child, of that kind, has in it.
func (d *deed) take(kind int) []int {
	v := d.next()
	isSign := kind < api.VDate
	need(v.Kind == kind && isWhole(v) && (isSign || Right(v)))
	return v.F
}

func (d *deed) number() int { return d.take(api.VNumber)[0] }

func (d *deed) word() int { return d.take(api.VWord)[0] }

func (d *deed) count() int {
	if d.first().Kind == api.VWord {
		return d.word()
	}
	return d.number()
}

func (d *deed) year() int {
	year, is := Year(d.next(), d.ref)
	need(is)
	return year
}

func (d *deed) pick() api.Value {
	v := d.next()
	return value(v.Kind, append([]int(nil), v.F...)...)
}

func (d *deed) date() api.Value {
	year, month, day := d.year(), d.count(), d.number()
	return value(api.VDate, year, month, day)
}

func (d *deed) dateOfThisYear() api.Value {
	month, day := d.count(), d.number()
	return value(api.VDate, d.ref.Y, month, day)
}

func (d *deed) time() api.Value {
	hour, minute, second := d.number(), d.number(), 0
	if len(d.places) > 0 {
		second = d.number()
	}
	return value(api.VTime, hour, minute, second)
}

func (d *deed) timeOfHalf() api.Value {
	hour, minute := d.number(), 0
	if len(d.places) > 1 {
		minute = d.number()
	}
	half := d.word()
	need(within(hour, 1, 12) && within(half, 0, 1))
	return value(api.VTime, hour%12+12*half, minute, 0)
}

func (d *deed) moment() api.Value {
	day, hour := d.take(api.VDate), d.take(api.VTime)
	return value(api.VMoment, slices.Concat(day, hour)...)
}

func (d *deed) dateFromHere() api.Value {
	n, unit, sign := d.count(), d.word(), d.word()
	need(within(n, -mostSteps, mostSteps) && (sign == -1 || sign == 1))
	n *= sign
	switch unit {
	case byDays:
		return d.dateOn(0, n)
	case byWeeks:
		return d.dateOn(0, week*n)
	case byMonths:
		return d.dateOn(n, 0)
	case byYears:
		return d.dateOn(12*n, 0)
	}
	panic(errNone)
}

func (d *deed) nextWeekday() api.Value {
	day := d.word()
	need(within(day, 0, week-1) && civil.Right(d.ref))
	// From 1 to 7: the weekday that ref's day is comes again a week on.
	ahead := (day-civil.Weekday(d.ref.Y, d.ref.M, d.ref.D)+week-1)%week + 1
	return d.dateOn(0, ahead)
}

// dateOn tells the day that is so many months and days on from ref's.
func (d *deed) dateOn(months, days int) api.Value {
	need(civil.Right(d.ref))
	year, month, day, is := civil.Add(d.ref.Y, d.ref.M, d.ref.D, months, days)
	need(is)
	return value(api.VDate, year, month, day)
}

func (d *deed) whole() api.Value { return value(api.VDec, d.number(), 0) }

func (d *deed) point() api.Value {
	whole, part := d.number(), d.take(api.VNumber)
	m, scale, is := dec.Join(whole, part[0], part[1])
	need(is)
	return value(api.VDec, m, scale)
}

func (d *deed) groups() api.Value {
	first := d.take(api.VNumber)
	need(within(first[1], 1, groupDigits))
	all, digits := grouped(0, first[0]), first[1]
	for len(d.places) > 0 {
		group := d.take(api.VNumber)
		digits += groupDigits
		need(group[1] == groupDigits && digits <= api.MaxDigits)
		all = grouped(all, group[0])
	}
	return value(api.VDec, all, 0)
}

// grouped writes a group behind digits.
func grouped(all, group int) int {
	need(within(group, 0, groupSize-1))
	return all*groupSize + group
}

func (d *deed) negated() api.Value {
	f := d.take(api.VDec)
	return value(api.VDec, -f[0], f[1])
}

func (d *deed) money() api.Value {
	currency, amount := d.word(), d.take(api.VDec)
	need(currency >= 0)
	units, is := dec.Scaled(amount[0], amount[1], currency%currencyDigits)
	need(is)
	return value(api.VMoney, currency, units)
}

func (d *deed) duration() api.Value {
	n, unit := d.count(), d.word()
	// Divided, as the product may be greater than any int.
	need(n >= 0 && unit >= 1 && n <= mostSeconds/unit)
	return value(api.VDur, n*unit)
}

func (d *deed) sum() api.Value {
	a, b := d.take(api.VDur), d.take(api.VDur)
	return value(api.VDur, a[0]+b[0])
}

func (d *deed) span() api.Value {
	from, to := d.take(api.VDate), d.take(api.VDate)
	return value(api.VSpan, slices.Concat(from, to)...)
}
