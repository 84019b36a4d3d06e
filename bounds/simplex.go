package bounds

import (
	"slices"

	"dataenclave/api"
	"dataenclave/fraction"
)

// tableau is what the simplex method works on. All its numbers are numerators over one common denominator, and each of them is a determinant of the equations: so they stay small.
type tableau struct {
	cells  int
	rows   [][]int // of each equation: its cells, a variable of its own for each equation, and its value
	costs  []int   // of what is to become greater: the same, and what is still to be gained
	basis  []int   // the variable that each row gives the value of
	common int
}

// solved returns a tableau at a point that satisfies equations, and whether there is one.
func solved(cells int, l []api.Equation) (*tableau, bool) {
	t := &tableau{cells: cells, costs: make([]int, cells+len(l)+1), common: 1}
	for i, x := range l {
		row := make([]int, len(t.costs))
		for _, cell := range x.Cells {
			row[cell] = 1
			t.costs[cell]++
		}
		row[cells+i] = 1
		row[len(row)-1] = x.Value
		t.costs[len(row)-1] += x.Value
		t.rows = append(t.rows, row)
		t.basis = append(t.basis, cells+i)
	}
	t.improve(t.entering, t.leaving)
	if t.costs[len(t.costs)-1] != 0 {
		return nil, false
	}
	t.release()
	return t, true
}

// improve exchanges variables until there is nothing to be gained.
func (t *tableau) improve(entering func() int, leaving func(column int) int) {
	for {
		column := entering()
		if column < 0 {
			return
		}
		row := leaving(column)
		if row < 0 {
			return
		}
		t.exchange(row, column)
	}
}

// entering returns the first cell by which something is gained, -1 if there is none.
func (t *tableau) entering() int {
	return slices.IndexFunc(t.costs[:t.cells], func(cost int) bool { return cost > 0 })
}

// leaving returns the row that is the first to forbid more of a cell; of several ones that with the first variable, so that nothing goes round in circles.
func (t *tableau) leaving(column int) int {
	best := -1
	for i, row := range t.rows {
		if row[column] <= 0 {
			continue
		}
		if best < 0 {
			best = i
			continue
		}
		other := t.rows[best]
		mine, its := row[len(row)-1]*other[column], other[len(row)-1]*row[column]
		if mine < its || mine == its && t.basis[i] < t.basis[best] {
			best = i
		}
	}
	return best
}

// exchange puts a cell into the place of the variable of a row.
func (t *tableau) exchange(at, column int) {
	row := t.rows[at]
	if row[column] < 0 {
		for k := range row {
			row[k] = -row[k]
		}
	}
	for i := range t.rows {
		if i != at {
			t.eliminate(t.rows[i], row, column)
		}
	}
	t.eliminate(t.costs, row, column)
	t.common = row[column]
	t.basis[at] = column
}

// eliminate takes so much of a row from another one that this has 0 in a column.
func (t *tableau) eliminate(other, row []int, column int) {
	factor := other[column]
	for k := range other {
		other[k] = (other[k]*row[column] - factor*row[k]) / t.common
	}
}

// release gives each row a cell that gives it the value of its equation's own variable, which is 0 by now, as far as the equations do not depend on each other.
func (t *tableau) release() {
	for i, row := range t.rows {
		column := slices.IndexFunc(row[:t.cells], func(n int) bool { return n != 0 })
		if t.basis[i] >= t.cells && column >= 0 {
			t.exchange(i, column)
		}
	}
}

// reach goes on to a point where a cell has the greatest value, or the least one.
func (t *tableau) reach(cell int, upper bool) {
	clear(t.costs)
	t.costs[cell] = t.common
	if i := slices.Index(t.basis, cell); i >= 0 {
		for k, n := range t.rows[i] {
			t.costs[k] -= n
		}
	}
	if !upper {
		for k := range t.costs {
			t.costs[k] = -t.costs[k]
		}
	}
	t.improve(t.entering, t.leaving)
}

// value returns the value of a cell at the point.
func (t *tableau) value(cell int) api.Frac {
	num := 0
	if i := slices.Index(t.basis, cell); i >= 0 {
		num = t.rows[i][len(t.costs)-1]
	}
	f, _ := fraction.Of(num, t.common)
	return f
}

// weights returns the weights of the equations that show that nothing more is to be gained.
func (t *tableau) weights(upper bool) []api.Frac {
	sign := 1
	if upper {
		sign = -1
	}
	var l []api.Frac
	for _, cost := range t.costs[t.cells : len(t.costs)-1] {
		f, _ := fraction.Of(sign*cost, t.common)
		l = append(l, f)
	}
	return l
}
