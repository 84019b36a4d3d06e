package schema

import "dataenclave/api"

// Turn returns the value at the level to that all values share that have a value at the level from, and whether there is one.
func (b Book) Turn(column, from, value, to int) (int, bool) {
	if !b.Level(column, from) || !b.Level(column, to) {
		return 0, false
	}
	if b.Coded(column) {
		return b.turnCode(column, from, value, to)
	}
	return turnMeasure(b.Columns[column], from, value, to)
}

func (b Book) turnCode(column, from, code, to int) (int, bool) {
	t := b.trees[b.Columns[column].List]
	if t.Level(code) != from {
		return 0, false
	}
	if to <= from {
		return t.Up(code, to), true
	}
	found := -1
	for _, below := range t.At(to) {
		if !t.Under(below, code) {
			continue
		}
		if found >= 0 {
			return 0, false
		}
		found = below
	}
	return found, true
}

func turnMeasure(c api.Column, from, value, to int) (int, bool) {
	low, high, ok := block(c, from, value)
	if !ok {
		return 0, false
	}
	if to == 0 {
		return 0, true
	}
	if from == 0 && c.Optional {
		return 0, false
	}
	first := coarse(c, to, low)
	if first != coarse(c, to, high) {
		return 0, false
	}
	return first, true
}

// block returns the least and the greatest number that a row can have at a measure, and that has a value at a level; api.Missing for both if only this has it.
func block(c api.Column, level, value int) (int, int, bool) {
	switch {
	case level == 0:
		return c.Low, c.High, value == 0
	case value == api.Missing:
		return api.Missing, api.Missing, c.Optional
	}
	w := width(c, level)
	if value < Floor(c.Low, w) || value > c.High || value%w != 0 {
		return 0, 0, false
	}
	return max(value, c.Low), min(value+w-1, c.High), true
}

// Some returns some value that a row can have at a column, and that has a value at a level; whether there is one.
func (b Book) Some(column, level, value int) (int, bool) {
	if !b.Level(column, level) {
		return 0, false
	}
	if c := b.Columns[column]; c.Kind == api.ColumnMeasure {
		low, _, ok := block(c, level, value)
		return low, ok
	}
	return b.trees[b.Columns[column].List].Some(value, level)
}
