package chart

import "slices"

// row is what begins at one place. Of each place where something ends, rising, the
// table's cell says in how many ways each code does.
type row struct {
	*table
	ends []int
}

// add counts further ways.
func (r *row) add(to, code, ways int) {
	if r.cells[to] == nil {
		r.cells[to] = make([]int, r.grammar.codes)
		at, _ := slices.BinarySearch(r.ends, to)
		r.ends = slices.Insert(r.ends, at, to)
	}
	r.cells[to][code] = min(r.cells[to][code]+ways, r.most)
}

// rise counts the symbols that are one part alone.
func (r *row) rise(to int) {
	for _, u := range r.grammar.units {
		r.add(to, u.whole, r.cells[to][u.part])
	}
}

// join carries on what ends at a place by all that begins there.
func (r *row) join(to int) {
	for _, j := range r.grammar.joins {
		ways := r.cells[to][j.left]
		if ways == 0 {
			continue
		}
		for _, e := range r.found[to][j.right] {
			r.add(e.to, j.whole, ways*e.ways)
		}
	}
}

// told tells of each class and symbol where it ends, and leaves the cells empty for
// the next row.
func (r *row) told() [][]end {
	found := make([][]end, len(r.grammar.parts))
	for _, to := range r.ends {
		for code := range found {
			if ways := r.cells[to][code]; ways > 0 {
				found[code] = append(found[code], end{to, ways})
			}
		}
		r.cells[to] = nil
	}
	return found
}
