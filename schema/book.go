package schema

import (
	"slices"

	"dataenclave/api"
)

// Column returns a column, and whether it exists and has one of some kinds.
func (b Book) Column(column int, kinds ...int) (api.Column, bool) {
	if column < 0 || column >= len(b.Columns) {
		return api.Column{}, false
	}
	c := b.Columns[column]
	for _, kind := range kinds {
		if c.Kind == kind {
			return c, true
		}
	}
	return api.Column{}, false
}

// Measure reports whether a column is a measure.
func (b Book) Measure(column int) bool {
	_, ok := b.Column(column, api.ColumnMeasure)
	return ok
}

// Coded reports whether a column is a code column.
func (b Book) Coded(column int) bool {
	_, ok := b.Column(column, api.ColumnCode)
	return ok
}

// At returns the codes of a level of a code column, ascending.
func (b Book) At(column, level int) []int {
	c, ok := b.Column(column, api.ColumnCode)
	if !ok {
		return nil
	}
	return b.trees[c.List].At(level)
}

// Under reports whether a code of a code column is another one, or stands below it.
func (b Book) Under(column, code, above int) bool {
	c, ok := b.Column(column, api.ColumnCode)
	return ok && b.trees[c.List].Under(code, above)
}

// Fits reports whether a row fits.
func (b Book) Fits(row []int) bool {
	if len(row) != len(b.Columns) || row[0] < 1 || row[0] > api.MaxId {
		return false
	}
	for i := 1; i < len(row); i++ {
		if !b.Has(i, row[i]) {
			return false
		}
	}
	return true
}

// Has reports whether a row can have a value at a column that is not the id.
func (b Book) Has(column, value int) bool {
	c, ok := b.Column(column, api.ColumnCode, api.ColumnMeasure)
	switch {
	case !ok:
		return false
	case c.Kind == api.ColumnCode:
		return b.trees[c.List].Leaf(value)
	case value == api.Missing:
		return c.Optional
	}
	return c.Low <= value && value <= c.High
}

// Finest returns the greatest level of a column, -1 for the id and for no such column.
func (b Book) Finest(column int) int {
	c, ok := b.Column(column, api.ColumnCode, api.ColumnMeasure)
	switch {
	case !ok:
		return -1
	case c.Kind == api.ColumnCode:
		return b.trees[c.List].Levels() - 1
	}
	return len(c.Widths)
}

// Level reports whether a column has a level.
func (b Book) Level(column, level int) bool { return 0 <= level && level <= b.Finest(column) }

// Least returns the least level of a column that divides its values as a given level does.
func (b Book) Least(column, level int) int {
	if !b.Level(column, level) {
		return -1
	}
	// A finer level only divides blocks further, so that equally many blocks are the same blocks.
	least := 0
	for b.blocks(column, least) < b.blocks(column, level) {
		least++
	}
	return least
}

// blocks returns how many different values rows can have at a level.
func (b Book) blocks(column, level int) int {
	c := b.Columns[column]
	if c.Kind == api.ColumnCode {
		return len(b.trees[c.List].At(level))
	}
	if level == 0 {
		return 1
	}
	w := width(c, level)
	n := (Floor(c.High, w)-Floor(c.Low, w))/w + 1
	if c.Optional {
		n++
	}
	return n
}

// Width returns the level of a measure that has a width, and whether there is one.
func (b Book) Width(column, width int) (int, bool) {
	c, ok := b.Column(column, api.ColumnMeasure)
	at := slices.Index(c.Widths, width)
	return len(c.Widths) - at, ok && at >= 0
}

// width returns the width of a level of a measure, from 1 on.
func width(c api.Column, level int) int { return c.Widths[len(c.Widths)-level] }

// Floor returns the greatest multiple of a width that is at most a value.
func Floor(value, width int) int {
	rest := value % width
	if rest < 0 {
		rest += width
	}
	return value - rest
}

// Coarse returns a value of a column at a level, -1 if one of them is none.
func (b Book) Coarse(column, level, value int) int {
	if !b.Level(column, level) {
		return -1
	}
	c := b.Columns[column]
	if c.Kind == api.ColumnCode {
		if !b.trees[c.List].Leaf(value) {
			return -1
		}
		return b.trees[c.List].Up(value, level)
	}
	if value != api.Missing && (value < -api.MaxMeasure || value > api.MaxMeasure) {
		return -1
	}
	return coarse(c, level, value)
}

func coarse(c api.Column, level, value int) int {
	switch {
	case level == 0:
		return 0
	case value == api.Missing:
		return api.Missing
	}
	return Floor(value, width(c, level))
}

// Pick returns the first error of a pick.
func (b Book) Pick(p api.Pick) api.Errno {
	if b.Finest(p.Column) < 0 {
		return api.ErrColumn
	}
	if !b.Level(p.Column, p.Level) {
		return api.ErrLevel
	}
	return api.OK
}

// Picks returns the first error of a list of picks.
func (b Book) Picks(l []api.Pick) api.Errno {
	for i, p := range l {
		if e := b.Pick(p); e != api.OK {
			return e
		}
		if i > 0 && p.Column <= l[i-1].Column {
			return api.ErrDuplicate
		}
	}
	return api.OK
}
