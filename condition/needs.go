package condition

import (
	"slices"

	"dataenclave/api"
	"dataenclave/schema"
)

// Needs returns the columns, ascending, each with the least level at which each condition about it alone can be decided.
func (x Clause) Needs() []api.Pick {
	levels := map[int]int{}
	for _, c := range atoms(x.cond) {
		levels[c.Column] = max(levels[c.Column], least(x.book, c))
	}
	return schema.Needed(levels)
}

// least returns the least level at which a condition about a column has one truth value in each block.
func least(b schema.Book, c api.Cond) int {
	level := 0
	for !decided(b, c, level) {
		level++
	}
	return level
}

func decided(b schema.Book, c api.Cond, level int) bool {
	blocks := map[int]int{}
	for _, value := range Edges(b, c) {
		block, says := b.Coarse(c.Column, level, value), Says(b, c, value)
		if before, seen := blocks[block]; seen && before != says {
			return false
		}
		blocks[block] = says
	}
	return true
}

// Edges returns values that rows can have at the column of a condition: wherever its truth value changes from one value to the next, both are among them.
func Edges(b schema.Book, c api.Cond) []int {
	if b.Coded(c.Column) {
		return b.At(c.Column, b.Finest(c.Column))
	}
	column := b.Columns[c.Column]
	var l []int
	for _, value := range []int{api.Missing, column.Low, c.Low - 1, c.Low, c.High, c.High + 1} {
		if b.Has(c.Column, value) {
			l = append(l, value)
		}
	}
	return l
}

// Over returns a function for the values of a row at the levels of picks. It knows nothing if the picks do not suffice.
func (x Clause) Over(picks []api.Pick) func(values []int) int {
	if x.book.Picks(picks) != api.OK || !schema.Covers(picks, x.Needs()) {
		return func(values []int) int { return api.Unknown }
	}
	usual := x.usual()
	return func(values []int) int {
		if len(values) != len(picks) {
			return api.Unknown
		}
		row := slices.Clone(usual)
		for i, p := range picks {
			value, ok := x.book.Some(p.Column, p.Level, values[i])
			if !ok {
				return api.Unknown
			}
			row[p.Column] = value
		}
		return truth(x.cond, func(c api.Cond) int { return Says(x.book, c, row[c.Column]) })
	}
}

// usual has some value for each column but the id: where a column is not needed, all its values say the same.
func (x Clause) usual() []int {
	row := make([]int, len(x.book.Columns))
	for column := range row {
		row[column], _ = x.book.Some(column, 0, 0)
	}
	return row
}
