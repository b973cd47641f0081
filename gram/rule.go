package gram

import "interlocutor/api"

const lastClass = api.CMark + len(api.Marks) - 1

// places holds of each Op how many places its action asks for, at least and at
// most.
var places = [...]struct{ least, most int }{
	api.APick:   {1, 1},
	api.ADate:   {3, 3},
	api.AThis:   {2, 2},
	api.ATime:   {2, 3},
	api.AHalf:   {2, 3},
	api.AMoment: {2, 2},
	api.ARel:    {3, 3},
	api.ANext:   {1, 1},
	api.AWhole:  {1, 1},
	api.APoint:  {2, 2},
	api.AGroup:  {1, 6},
	api.ANeg:    {1, 1},
	api.AMoney:  {2, 2},
	api.ADur:    {2, 2},
	api.ASum:    {2, 2},
	api.ASpan:   {2, 2},
}

// rule is a rule that may be wrong in each of its parts.
type rule api.Rule

func (x rule) hasRhs() bool {
	return within(len(x.Rhs), 1, api.MaxRhs) && all(x.Rhs, isPart)
}

func (x rule) hasCost() bool { return within(x.Cost, 0, api.MaxCost) }

func (x rule) hasAct() bool {
	if !within(x.Act.Op, 0, len(places)-1) {
		return false
	}
	asked := places[x.Act.Op]
	return within(len(x.Act.P), asked.least, asked.most) && all(x.Act.P, x.isPlace)
}

// isPlace tells whether p is a place in Rhs.
func (x rule) isPlace(p int) bool { return within(p, 0, len(x.Rhs)-1) }

// isPart tells whether n may stand in a rule's Rhs.
func isPart(n int) bool { return isSymbol(n) || within(n, -1-lastClass, -1) }

func isSymbol(n int) bool { return within(n, 0, api.MaxNon-1) }

func within(n, low, high int) bool { return low <= n && n <= high }

func all[T any](list []T, holds func(T) bool) bool {
	for _, x := range list {
		if !holds(x) {
			return false
		}
	}
	return true
}
